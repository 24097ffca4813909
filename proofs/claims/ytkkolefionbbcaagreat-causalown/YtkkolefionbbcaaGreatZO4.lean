/-
  Operations: what a kind has alone.
-/
import Derived.Test.YtkkolefionbbcaaGreatZXO1
import Derived.Test.YtkkolefionbbcaaGreatZXReg
set_option linter.unusedSimpArgs false
set_option linter.unusedVariables false
namespace Go.Proofs.YtkkolefionbbcaaGreat
open Go.RowKit Go.Lib

set_option maxRecDepth 100000 in
set_option maxHeartbeats 1000000 in
theorem insAlone_in (ds dq kind it is rt rs site : Int) (vd : Value) (text : ByteArray) (a : Option Addr) (n c : Nat) (w : World) :
    Calls Tryz.prog 64 #[.agg #[.int .i64 ds, .int .i64 dq, vd, .int .i64 kind, .int .i64 it, .int .i64 is, .int .i64 rt, .int .i64 rs, .string text, .slice a n c, .int .i64 site], .iface 115 (.agg #[.int .i64 it, .int .i64 is, .int .i64 rt, .int .i64 rs, .string text])] w fun e W => e = .returned (.bool (decide ((n : Int) = 0) && decide (site = 0))) ∧ Below w.heap.size w W := by
  obtain ⟨E, hE0⟩ : ∃ E, (decide ((n : Int) = 0) && decide (site = 0)) = E := ⟨_, rfl⟩
  have hE : ∀ W, (binOp .eql 125 (parV it is rt rs text (n : Nat) site) (parV it is rt rs text ((0 : Nat) : Int) 0)).run Tryz.prog W = .ok (.bool E) W := fun W => by
    rw [eqP, ← hE0]
    simp [Bool.and_assoc]
  unfold parV at hE
  rw [hE0]
  clear hE0
  obtain ⟨X, hX⟩ : ∃ X, (w.alloc (.cells #[.int .i64 ds, .int .i64 dq, vd, .int .i64 kind, .int .i64 it, .int .i64 is, .int .i64 rt, .int .i64 rs, .string text, .slice a n c, .int .i64 site] 42)).alloc (.cells #[.int .i64 0, .int .i64 0, .slice none 0 0, .int .i64 0, .int .i64 0, .int .i64 0, .int .i64 0, .int .i64 0, .string ⟨#[]⟩, .slice none 0 0, .int .i64 0] 42) = X := ⟨_, rfl⟩
  have HA : Bx X w.heap.size 42 #[.int .i64 ds, .int .i64 dq, vd, .int .i64 kind, .int .i64 it, .int .i64 is, .int .i64 rt, .int .i64 rs, .string text, .slice a n c, .int .i64 site] := by rw [← hX]; exact (Bx.new w _ _).below (ballc (Below.refl _ _) _)
  have HB : Bx X (w.heap.size + 1) 42 #[.int .i64 0, .int .i64 0, .slice none 0 0, .int .i64 0, .int .i64 0, .int .i64 0, .int .i64 0, .int .i64 0, .string ⟨#[]⟩, .slice none 0 0, .int .i64 0] := by
    rw [← hX]
    have := Bx.new (w.alloc (.cells #[.int .i64 ds, .int .i64 dq, vd, .int .i64 kind, .int .i64 it, .int .i64 is, .int .i64 rt, .int .i64 rs, .string text, .slice a n c, .int .i64 site] 42)) 42 #[.int .i64 0, .int .i64 0, .slice none 0 0, .int .i64 0, .int .i64 0, .int .i64 0, .int .i64 0, .int .i64 0, .string ⟨#[]⟩, .slice none 0 0, .int .i64 0]
    rw [World.size_alloc] at this
    exact this
  have B0 : Below w.heap.size w X := by rw [← hX]; exact ballc (ballc (Below.refl _ _) _) _
  have HF := hide (insFill_in it is rt rs text _ _ _ _ _ _ _ _ _ _ _ HB)
  have P1 := hide (fun W => partsOf_in ⟨ds, dq, [], kind, it, is, rt, rs, text, [], site⟩ vd a n c W)
  have P2 := hide (fun W => partsOf_in ⟨0, 0, [], 0, it, is, rt, rs, text, [], 0⟩ (.slice none 0 0) none 0 0 W)
  unfold opA parV at P1 P2
  simp only at P1 P2
  replace HA := hide HA
  replace B0 := hide B0
  clear HB
  have hm := (ins_meth Tryz.underlying96).1
  go_enter Tryz.func64, Tryz.ntmps64
  go_wp2_with fail
  refine (unhide HF).mono ?_
  rintro e Y ⟨rfl, hB, hk⟩
  have HB := hide hB
  replace HA := hide ((unhide HA).kp hk (by omega))
  replace B0 := hide (hk.below (unhide B0) (fun i hi => by omega))
  clear hB hk hX HF
  go_wp2
  refine wp_region_any (by kernel_rfl) ?_
  change wpAny _ _ _ _ _ _ _ (World.drew _)
  refine region_invG 13 (fun j => if j = 5 then 4 else 8 + j) ((0, (.agg #[.int .i64 ds, .int .i64 dq, vd, .int .i64 kind, .int .i64 it, .int .i64 is, .int .i64 rt, .int .i64 rs, .string text, .slice a n c, .int .i64 site])) :: (1, (.iface 115 (.agg #[.int .i64 it, .int .i64 is, .int .i64 rt, .int .i64 rs, .string text]))) :: (2, (.pointer (some ⟨w.heap.size, 0, none⟩))) :: (3, undef) :: (5, (.pointer (some ⟨(w.heap.size + 1), 0, none⟩))) :: (6, (.iface 115 (.agg #[.int .i64 it, .int .i64 is, .int .i64 rt, .int .i64 rs, .string text]))) :: (7, (.tuple #[])) :: [])
    (fun W => Below Y.heap.size Y W)
    (valsOf [isV (.agg #[.int .i64 ds, .int .i64 dq, vd, .int .i64 kind, .int .i64 it, .int .i64 is, .int .i64 rt, .int .i64 rs, .string text, .slice a n c, .int .i64 site]), isV (.agg #[.int .i64 it, .int .i64 is, .int .i64 rt, .int .i64 rs, .string text, .int .i64 (n : Nat), .int .i64 site]), isV (.agg #[.int .i64 0, .int .i64 0, .slice none 0 0, .int .i64 0, .int .i64 it, .int .i64 is, .int .i64 rt, .int .i64 rs, .string text, .slice none 0 0, .int .i64 0]), isV (.agg #[.int .i64 it, .int .i64 is, .int .i64 rt, .int .i64 rs, .string text, .int .i64 ((0 : Nat) : Int), .int .i64 0]), isV (.bool E), isV (.bool E)])
    (fun w w' => Below w.heap.size w w') ?fit (fun w1 w2 h hG => h.trans (hG.mono h.size)) (valsOf_stable ?stable) (fun _ => true) [] ?gs ?gv ?steps ?fin _ _ ?sz rfl ?base ?start
  case fit => kernel_rfl
  case sz => rfl
  case gs => kernel_rfl
  case gv => intro p hp w v hv; cases hp
  case base => intro p hp; repeat (first | (rcases List.mem_cons.1 hp with rfl | hp; · rfl) | cases hp)
  case stable => exact Stables.all (by repeat (first | exact .nil | refine .same ?_))
  case start => exact (Below.refl _ _).drew
  case steps =>
    refine .cons (fun ρ wz hρ hJ hb hd => by
      refine Eq.mpr (if_neg (by decide)) ?_
      have dd0 : ρ (.tmp 2) = (.pointer (some ⟨w.heap.size, 0, none⟩)) := hb (2, _) (List.mem_of_getElem? (i := 2) rfl)
      have q := (unhide HA).below hJ
      have x0 := q.cell 0 _ rfl
      have x1 := q.cell 1 _ rfl
      have x2 := q.cell 2 _ rfl
      have x3 := q.cell 3 _ rfl
      have x4 := q.cell 4 _ rfl
      have x5 := q.cell 5 _ rfl
      have x6 := q.cell 6 _ rfl
      have x7 := q.cell 7 _ rfl
      have x8 := q.cell 8 _ rfl
      have x9 := q.cell 9 _ rfl
      have x10 := q.cell 10 _ rfl
      exact step_val (v := (.agg #[.int .i64 ds, .int .i64 dq, vd, .int .i64 kind, .int .i64 it, .int .i64 is, .int .i64 rt, .int .i64 rs, .string text, .slice a n c, .int .i64 site])) (w' := wz) (by simp [go_sem, execOp, dd0, x0, x1, x2, x3, x4, x5, x6, x7, x8, x9, x10]) ⟨Below.refl _ _, rfl⟩) ?_
    refine .cons (fun ρ wz hρ hJ hb hd => by
      refine Eq.mpr (if_neg (by decide)) ?_
      have dd0 : ρ (.tmp 8) = (.agg #[.int .i64 ds, .int .i64 dq, vd, .int .i64 kind, .int .i64 it, .int .i64 is, .int .i64 rt, .int .i64 rs, .string text, .slice a n c, .int .i64 site]) := hd 0 _ rfl rfl
      refine step_func 84 _ _ #[.agg #[.int .i64 ds, .int .i64 dq, vd, .int .i64 kind, .int .i64 it, .int .i64 is, .int .i64 rt, .int .i64 rs, .string text, .slice a n c, .int .i64 site]] hρ rfl (enters_of Tryz.func84 (by kernel_rfl) rfl) (by simp [dd0]) ?_
      refine (unhide P1 wz).mono ?_
      rintro r W' ⟨rfl, hb2⟩
      exact ⟨_, rfl, hb2, rfl⟩) ?_
    refine .cons (fun ρ wz hρ hJ hb hd => by
      refine Eq.mpr (if_neg (by decide)) ?_
      have dd0 : ρ (.tmp 5) = (.pointer (some ⟨(w.heap.size + 1), 0, none⟩)) := hb (5, _) (List.mem_of_getElem? (i := 4) rfl)
      have q := (unhide HB).below hJ
      have x0 := q.cell 0 _ rfl
      have x1 := q.cell 1 _ rfl
      have x2 := q.cell 2 _ rfl
      have x3 := q.cell 3 _ rfl
      have x4 := q.cell 4 _ rfl
      have x5 := q.cell 5 _ rfl
      have x6 := q.cell 6 _ rfl
      have x7 := q.cell 7 _ rfl
      have x8 := q.cell 8 _ rfl
      have x9 := q.cell 9 _ rfl
      have x10 := q.cell 10 _ rfl
      exact step_val (v := (.agg #[.int .i64 0, .int .i64 0, .slice none 0 0, .int .i64 0, .int .i64 it, .int .i64 is, .int .i64 rt, .int .i64 rs, .string text, .slice none 0 0, .int .i64 0])) (w' := wz) (by simp [go_sem, execOp, dd0, x0, x1, x2, x3, x4, x5, x6, x7, x8, x9, x10]) ⟨Below.refl _ _, rfl⟩) ?_
    refine .cons (fun ρ wz hρ hJ hb hd => by
      refine Eq.mpr (if_neg (by decide)) ?_
      have dd0 : ρ (.tmp 10) = (.agg #[.int .i64 0, .int .i64 0, .slice none 0 0, .int .i64 0, .int .i64 it, .int .i64 is, .int .i64 rt, .int .i64 rs, .string text, .slice none 0 0, .int .i64 0]) := hd 0 _ rfl rfl
      refine step_func 84 _ _ #[.agg #[.int .i64 0, .int .i64 0, .slice none 0 0, .int .i64 0, .int .i64 it, .int .i64 is, .int .i64 rt, .int .i64 rs, .string text, .slice none 0 0, .int .i64 0]] hρ rfl (enters_of Tryz.func84 (by kernel_rfl) rfl) (by simp [dd0]) ?_
      refine (unhide P2 wz).mono ?_
      rintro r W' ⟨rfl, hb2⟩
      exact ⟨_, rfl, hb2, rfl⟩) ?_
    refine .cons (fun ρ wz hρ hJ hb hd => by
      refine Eq.mpr (if_neg (by decide)) ?_
      have dd0 : ρ (.tmp 9) = (.agg #[.int .i64 it, .int .i64 is, .int .i64 rt, .int .i64 rs, .string text, .int .i64 (n : Nat), .int .i64 site]) := hd 0 _ rfl rfl
      have dd1 : ρ (.tmp 11) = (.agg #[.int .i64 it, .int .i64 is, .int .i64 rt, .int .i64 rs, .string text, .int .i64 ((0 : Nat) : Int), .int .i64 0]) := hd 1 _ rfl rfl
      exact step_val (v := (.bool E)) (w' := wz) (by simp only [execOp, dd0, dd1, Sem.run_bind, Sem.run_pure, run_eqGuard_agg _ _ _ _ _ _ _ Tryz.eqGuardType125, hE, Result.andThen_ok]) ⟨Below.refl _ _, rfl⟩) ?_
    refine .cons (fun ρ wz hρ hJ hb hd => by
      refine Eq.mpr (if_neg (by decide)) ?_
      have dd0 : ρ (.tmp 12) = (.bool E) := hd 0 _ rfl rfl
      exact step_assign (.tmp 12) rfl ⟨Below.refl _ _, dd0⟩) (.nil _)
  case fin =>
    intro aQ WQ hsz2 hds hb hJ hv
    obtain rfl := frame_of (((0, (.agg #[.int .i64 ds, .int .i64 dq, vd, .int .i64 kind, .int .i64 it, .int .i64 is, .int .i64 rt, .int .i64 rs, .string text, .slice a n c, .int .i64 site])) :: (1, (.iface 115 (.agg #[.int .i64 it, .int .i64 is, .int .i64 rt, .int .i64 rs, .string text]))) :: (2, (.pointer (some ⟨w.heap.size, 0, none⟩))) :: (3, undef) :: (5, (.pointer (some ⟨(w.heap.size + 1), 0, none⟩))) :: (6, (.iface 115 (.agg #[.int .i64 it, .int .i64 is, .int .i64 rt, .int .i64 rs, .string text]))) :: (7, (.tuple #[])) :: []) ++ ((8, (.agg #[.int .i64 ds, .int .i64 dq, vd, .int .i64 kind, .int .i64 it, .int .i64 is, .int .i64 rt, .int .i64 rs, .string text, .slice a n c, .int .i64 site])) :: (9, (.agg #[.int .i64 it, .int .i64 is, .int .i64 rt, .int .i64 rs, .string text, .int .i64 (n : Nat), .int .i64 site])) :: (10, (.agg #[.int .i64 0, .int .i64 0, .slice none 0 0, .int .i64 0, .int .i64 it, .int .i64 is, .int .i64 rt, .int .i64 rs, .string text, .slice none 0 0, .int .i64 0])) :: (11, (.agg #[.int .i64 it, .int .i64 is, .int .i64 rt, .int .i64 rs, .string text, .int .i64 ((0 : Nat) : Int), .int .i64 0])) :: (12, (.bool E)) :: (4, (.bool E)) :: [])) ((.agg #[.int .i64 ds, .int .i64 dq, vd, .int .i64 kind, .int .i64 it, .int .i64 is, .int .i64 rt, .int .i64 rs, .string text, .slice a n c, .int .i64 site]) :: (.iface 115 (.agg #[.int .i64 it, .int .i64 is, .int .i64 rt, .int .i64 rs, .string text])) :: (.pointer (some ⟨w.heap.size, 0, none⟩)) :: undef :: (.bool E) :: (.pointer (some ⟨(w.heap.size + 1), 0, none⟩)) :: (.iface 115 (.agg #[.int .i64 it, .int .i64 is, .int .i64 rt, .int .i64 rs, .string text])) :: (.tuple #[]) :: (.agg #[.int .i64 ds, .int .i64 dq, vd, .int .i64 kind, .int .i64 it, .int .i64 is, .int .i64 rt, .int .i64 rs, .string text, .slice a n c, .int .i64 site]) :: (.agg #[.int .i64 it, .int .i64 is, .int .i64 rt, .int .i64 rs, .string text, .int .i64 (n : Nat), .int .i64 site]) :: (.agg #[.int .i64 0, .int .i64 0, .slice none 0 0, .int .i64 0, .int .i64 it, .int .i64 is, .int .i64 rt, .int .i64 rs, .string text, .slice none 0 0, .int .i64 0]) :: (.agg #[.int .i64 it, .int .i64 is, .int .i64 rt, .int .i64 rs, .string text, .int .i64 ((0 : Nat) : Int), .int .i64 0]) :: (.bool E) :: []) hsz2 hds (fun p hp => by
      rcases List.mem_append.1 hp with h | h
      · exact hb p h
      · simp only [List.mem_cons, List.not_mem_nil, or_false] at h
        rcases h with rfl | rfl | rfl | rfl | rfl | rfl
        · exact hv 0 (by decide)
        · exact hv 1 (by decide)
        · exact hv 2 (by decide)
        · exact hv 3 (by decide)
        · exact hv 4 (by decide)
        · exact hv 5 (by decide)) rfl
    clear hb hds hsz2 hv
    go_wp2
    go_ret
    exact ⟨rfl, bnext (unhide B0) hJ⟩

set_option maxRecDepth 100000 in
set_option maxHeartbeats 1000000 in
theorem delAlone_in (ds dq kind it is rt rs site : Int) (vd : Value) (text : ByteArray) (a : Option Addr) (n c : Nat) (w : World) :
    Calls Tryz.prog 64 #[.agg #[.int .i64 ds, .int .i64 dq, vd, .int .i64 kind, .int .i64 it, .int .i64 is, .int .i64 rt, .int .i64 rs, .string text, .slice a n c, .int .i64 site], .iface 117 (.agg #[.slice a n c])] w fun e W => e = .returned (.bool (decide (it = 0) && decide (is = 0) && decide (rt = 0) && decide (rs = 0) && decide (text = ⟨#[]⟩) && decide (site = 0))) ∧ Below w.heap.size w W := by
  obtain ⟨E, hE0⟩ : ∃ E, (decide (it = 0) && decide (is = 0) && decide (rt = 0) && decide (rs = 0) && decide (text = ⟨#[]⟩) && decide (site = 0)) = E := ⟨_, rfl⟩
  have hE : ∀ W, (binOp .eql 125 (parV it is rt rs text (n : Nat) site) (parV 0 0 0 0 ⟨#[]⟩ (n : Nat) 0)).run Tryz.prog W = .ok (.bool E) W := fun W => by
    rw [eqP, ← hE0]
    simp [Bool.and_assoc]
  unfold parV at hE
  rw [hE0]
  clear hE0
  obtain ⟨X, hX⟩ : ∃ X, (w.alloc (.cells #[.int .i64 ds, .int .i64 dq, vd, .int .i64 kind, .int .i64 it, .int .i64 is, .int .i64 rt, .int .i64 rs, .string text, .slice a n c, .int .i64 site] 42)).alloc (.cells #[.int .i64 0, .int .i64 0, .slice none 0 0, .int .i64 0, .int .i64 0, .int .i64 0, .int .i64 0, .int .i64 0, .string ⟨#[]⟩, .slice none 0 0, .int .i64 0] 42) = X := ⟨_, rfl⟩
  have HA : Bx X w.heap.size 42 #[.int .i64 ds, .int .i64 dq, vd, .int .i64 kind, .int .i64 it, .int .i64 is, .int .i64 rt, .int .i64 rs, .string text, .slice a n c, .int .i64 site] := by rw [← hX]; exact (Bx.new w _ _).below (ballc (Below.refl _ _) _)
  have HB : Bx X (w.heap.size + 1) 42 #[.int .i64 0, .int .i64 0, .slice none 0 0, .int .i64 0, .int .i64 0, .int .i64 0, .int .i64 0, .int .i64 0, .string ⟨#[]⟩, .slice none 0 0, .int .i64 0] := by
    rw [← hX]
    have := Bx.new (w.alloc (.cells #[.int .i64 ds, .int .i64 dq, vd, .int .i64 kind, .int .i64 it, .int .i64 is, .int .i64 rt, .int .i64 rs, .string text, .slice a n c, .int .i64 site] 42)) 42 #[.int .i64 0, .int .i64 0, .slice none 0 0, .int .i64 0, .int .i64 0, .int .i64 0, .int .i64 0, .int .i64 0, .string ⟨#[]⟩, .slice none 0 0, .int .i64 0]
    rw [World.size_alloc] at this
    exact this
  have B0 : Below w.heap.size w X := by rw [← hX]; exact ballc (ballc (Below.refl _ _) _) _
  have HF := hide (delFill_in a n c _ _ _ _ _ _ _ _ _ _ _ HB)
  have P1 := hide (fun W => partsOf_in ⟨ds, dq, [], kind, it, is, rt, rs, text, [], site⟩ vd a n c W)
  have P2 := hide (fun W => partsOf_in ⟨0, 0, [], 0, 0, 0, 0, 0, ⟨#[]⟩, [], 0⟩ (.slice none 0 0) a n c W)
  unfold opA parV at P1 P2
  simp only at P1 P2
  replace HA := hide HA
  replace B0 := hide B0
  clear HB
  have hm := (del_meth Tryz.underlying96).1
  go_enter Tryz.func64, Tryz.ntmps64
  go_wp2_with fail
  refine (unhide HF).mono ?_
  rintro e Y ⟨rfl, hB, hk⟩
  have HB := hide hB
  replace HA := hide ((unhide HA).kp hk (by omega))
  replace B0 := hide (hk.below (unhide B0) (fun i hi => by omega))
  clear hB hk hX HF
  go_wp2
  refine wp_region_any (by kernel_rfl) ?_
  change wpAny _ _ _ _ _ _ _ (World.drew _)
  refine region_invG 13 (fun j => if j = 5 then 4 else 8 + j) ((0, (.agg #[.int .i64 ds, .int .i64 dq, vd, .int .i64 kind, .int .i64 it, .int .i64 is, .int .i64 rt, .int .i64 rs, .string text, .slice a n c, .int .i64 site])) :: (1, (.iface 117 (.agg #[.slice a n c]))) :: (2, (.pointer (some ⟨w.heap.size, 0, none⟩))) :: (3, undef) :: (5, (.pointer (some ⟨(w.heap.size + 1), 0, none⟩))) :: (6, (.iface 117 (.agg #[.slice a n c]))) :: (7, (.tuple #[])) :: [])
    (fun W => Below Y.heap.size Y W)
    (valsOf [isV (.agg #[.int .i64 ds, .int .i64 dq, vd, .int .i64 kind, .int .i64 it, .int .i64 is, .int .i64 rt, .int .i64 rs, .string text, .slice a n c, .int .i64 site]), isV (.agg #[.int .i64 it, .int .i64 is, .int .i64 rt, .int .i64 rs, .string text, .int .i64 (n : Nat), .int .i64 site]), isV (.agg #[.int .i64 0, .int .i64 0, .slice none 0 0, .int .i64 0, .int .i64 0, .int .i64 0, .int .i64 0, .int .i64 0, .string ⟨#[]⟩, .slice a n c, .int .i64 0]), isV (.agg #[.int .i64 0, .int .i64 0, .int .i64 0, .int .i64 0, .string ⟨#[]⟩, .int .i64 (n : Nat), .int .i64 0]), isV (.bool E), isV (.bool E)])
    (fun w w' => Below w.heap.size w w') ?fit (fun w1 w2 h hG => h.trans (hG.mono h.size)) (valsOf_stable ?stable) (fun _ => true) [] ?gs ?gv ?steps ?fin _ _ ?sz rfl ?base ?start
  case fit => kernel_rfl
  case sz => rfl
  case gs => kernel_rfl
  case gv => intro p hp w v hv; cases hp
  case base => intro p hp; repeat (first | (rcases List.mem_cons.1 hp with rfl | hp; · rfl) | cases hp)
  case stable => exact Stables.all (by repeat (first | exact .nil | refine .same ?_))
  case start => exact (Below.refl _ _).drew
  case steps =>
    refine .cons (fun ρ wz hρ hJ hb hd => by
      refine Eq.mpr (if_neg (by decide)) ?_
      have dd0 : ρ (.tmp 2) = (.pointer (some ⟨w.heap.size, 0, none⟩)) := hb (2, _) (List.mem_of_getElem? (i := 2) rfl)
      have q := (unhide HA).below hJ
      have x0 := q.cell 0 _ rfl
      have x1 := q.cell 1 _ rfl
      have x2 := q.cell 2 _ rfl
      have x3 := q.cell 3 _ rfl
      have x4 := q.cell 4 _ rfl
      have x5 := q.cell 5 _ rfl
      have x6 := q.cell 6 _ rfl
      have x7 := q.cell 7 _ rfl
      have x8 := q.cell 8 _ rfl
      have x9 := q.cell 9 _ rfl
      have x10 := q.cell 10 _ rfl
      exact step_val (v := (.agg #[.int .i64 ds, .int .i64 dq, vd, .int .i64 kind, .int .i64 it, .int .i64 is, .int .i64 rt, .int .i64 rs, .string text, .slice a n c, .int .i64 site])) (w' := wz) (by simp [go_sem, execOp, dd0, x0, x1, x2, x3, x4, x5, x6, x7, x8, x9, x10]) ⟨Below.refl _ _, rfl⟩) ?_
    refine .cons (fun ρ wz hρ hJ hb hd => by
      refine Eq.mpr (if_neg (by decide)) ?_
      have dd0 : ρ (.tmp 8) = (.agg #[.int .i64 ds, .int .i64 dq, vd, .int .i64 kind, .int .i64 it, .int .i64 is, .int .i64 rt, .int .i64 rs, .string text, .slice a n c, .int .i64 site]) := hd 0 _ rfl rfl
      refine step_func 84 _ _ #[.agg #[.int .i64 ds, .int .i64 dq, vd, .int .i64 kind, .int .i64 it, .int .i64 is, .int .i64 rt, .int .i64 rs, .string text, .slice a n c, .int .i64 site]] hρ rfl (enters_of Tryz.func84 (by kernel_rfl) rfl) (by simp [dd0]) ?_
      refine (unhide P1 wz).mono ?_
      rintro r W' ⟨rfl, hb2⟩
      exact ⟨_, rfl, hb2, rfl⟩) ?_
    refine .cons (fun ρ wz hρ hJ hb hd => by
      refine Eq.mpr (if_neg (by decide)) ?_
      have dd0 : ρ (.tmp 5) = (.pointer (some ⟨(w.heap.size + 1), 0, none⟩)) := hb (5, _) (List.mem_of_getElem? (i := 4) rfl)
      have q := (unhide HB).below hJ
      have x0 := q.cell 0 _ rfl
      have x1 := q.cell 1 _ rfl
      have x2 := q.cell 2 _ rfl
      have x3 := q.cell 3 _ rfl
      have x4 := q.cell 4 _ rfl
      have x5 := q.cell 5 _ rfl
      have x6 := q.cell 6 _ rfl
      have x7 := q.cell 7 _ rfl
      have x8 := q.cell 8 _ rfl
      have x9 := q.cell 9 _ rfl
      have x10 := q.cell 10 _ rfl
      exact step_val (v := (.agg #[.int .i64 0, .int .i64 0, .slice none 0 0, .int .i64 0, .int .i64 0, .int .i64 0, .int .i64 0, .int .i64 0, .string ⟨#[]⟩, .slice a n c, .int .i64 0])) (w' := wz) (by simp [go_sem, execOp, dd0, x0, x1, x2, x3, x4, x5, x6, x7, x8, x9, x10]) ⟨Below.refl _ _, rfl⟩) ?_
    refine .cons (fun ρ wz hρ hJ hb hd => by
      refine Eq.mpr (if_neg (by decide)) ?_
      have dd0 : ρ (.tmp 10) = (.agg #[.int .i64 0, .int .i64 0, .slice none 0 0, .int .i64 0, .int .i64 0, .int .i64 0, .int .i64 0, .int .i64 0, .string ⟨#[]⟩, .slice a n c, .int .i64 0]) := hd 0 _ rfl rfl
      refine step_func 84 _ _ #[.agg #[.int .i64 0, .int .i64 0, .slice none 0 0, .int .i64 0, .int .i64 0, .int .i64 0, .int .i64 0, .int .i64 0, .string ⟨#[]⟩, .slice a n c, .int .i64 0]] hρ rfl (enters_of Tryz.func84 (by kernel_rfl) rfl) (by simp [dd0]) ?_
      refine (unhide P2 wz).mono ?_
      rintro r W' ⟨rfl, hb2⟩
      exact ⟨_, rfl, hb2, rfl⟩) ?_
    refine .cons (fun ρ wz hρ hJ hb hd => by
      refine Eq.mpr (if_neg (by decide)) ?_
      have dd0 : ρ (.tmp 9) = (.agg #[.int .i64 it, .int .i64 is, .int .i64 rt, .int .i64 rs, .string text, .int .i64 (n : Nat), .int .i64 site]) := hd 0 _ rfl rfl
      have dd1 : ρ (.tmp 11) = (.agg #[.int .i64 0, .int .i64 0, .int .i64 0, .int .i64 0, .string ⟨#[]⟩, .int .i64 (n : Nat), .int .i64 0]) := hd 1 _ rfl rfl
      exact step_val (v := (.bool E)) (w' := wz) (by simp only [execOp, dd0, dd1, Sem.run_bind, Sem.run_pure, run_eqGuard_agg _ _ _ _ _ _ _ Tryz.eqGuardType125, hE, Result.andThen_ok]) ⟨Below.refl _ _, rfl⟩) ?_
    refine .cons (fun ρ wz hρ hJ hb hd => by
      refine Eq.mpr (if_neg (by decide)) ?_
      have dd0 : ρ (.tmp 12) = (.bool E) := hd 0 _ rfl rfl
      exact step_assign (.tmp 12) rfl ⟨Below.refl _ _, dd0⟩) (.nil _)
  case fin =>
    intro aQ WQ hsz2 hds hb hJ hv
    obtain rfl := frame_of (((0, (.agg #[.int .i64 ds, .int .i64 dq, vd, .int .i64 kind, .int .i64 it, .int .i64 is, .int .i64 rt, .int .i64 rs, .string text, .slice a n c, .int .i64 site])) :: (1, (.iface 117 (.agg #[.slice a n c]))) :: (2, (.pointer (some ⟨w.heap.size, 0, none⟩))) :: (3, undef) :: (5, (.pointer (some ⟨(w.heap.size + 1), 0, none⟩))) :: (6, (.iface 117 (.agg #[.slice a n c]))) :: (7, (.tuple #[])) :: []) ++ ((8, (.agg #[.int .i64 ds, .int .i64 dq, vd, .int .i64 kind, .int .i64 it, .int .i64 is, .int .i64 rt, .int .i64 rs, .string text, .slice a n c, .int .i64 site])) :: (9, (.agg #[.int .i64 it, .int .i64 is, .int .i64 rt, .int .i64 rs, .string text, .int .i64 (n : Nat), .int .i64 site])) :: (10, (.agg #[.int .i64 0, .int .i64 0, .slice none 0 0, .int .i64 0, .int .i64 0, .int .i64 0, .int .i64 0, .int .i64 0, .string ⟨#[]⟩, .slice a n c, .int .i64 0])) :: (11, (.agg #[.int .i64 0, .int .i64 0, .int .i64 0, .int .i64 0, .string ⟨#[]⟩, .int .i64 (n : Nat), .int .i64 0])) :: (12, (.bool E)) :: (4, (.bool E)) :: [])) ((.agg #[.int .i64 ds, .int .i64 dq, vd, .int .i64 kind, .int .i64 it, .int .i64 is, .int .i64 rt, .int .i64 rs, .string text, .slice a n c, .int .i64 site]) :: (.iface 117 (.agg #[.slice a n c])) :: (.pointer (some ⟨w.heap.size, 0, none⟩)) :: undef :: (.bool E) :: (.pointer (some ⟨(w.heap.size + 1), 0, none⟩)) :: (.iface 117 (.agg #[.slice a n c])) :: (.tuple #[]) :: (.agg #[.int .i64 ds, .int .i64 dq, vd, .int .i64 kind, .int .i64 it, .int .i64 is, .int .i64 rt, .int .i64 rs, .string text, .slice a n c, .int .i64 site]) :: (.agg #[.int .i64 it, .int .i64 is, .int .i64 rt, .int .i64 rs, .string text, .int .i64 (n : Nat), .int .i64 site]) :: (.agg #[.int .i64 0, .int .i64 0, .slice none 0 0, .int .i64 0, .int .i64 0, .int .i64 0, .int .i64 0, .int .i64 0, .string ⟨#[]⟩, .slice a n c, .int .i64 0]) :: (.agg #[.int .i64 0, .int .i64 0, .int .i64 0, .int .i64 0, .string ⟨#[]⟩, .int .i64 (n : Nat), .int .i64 0]) :: (.bool E) :: []) hsz2 hds (fun p hp => by
      rcases List.mem_append.1 hp with h | h
      · exact hb p h
      · simp only [List.mem_cons, List.not_mem_nil, or_false] at h
        rcases h with rfl | rfl | rfl | rfl | rfl | rfl
        · exact hv 0 (by decide)
        · exact hv 1 (by decide)
        · exact hv 2 (by decide)
        · exact hv 3 (by decide)
        · exact hv 4 (by decide)
        · exact hv 5 (by decide)) rfl
    clear hb hds hsz2 hv
    go_wp2
    go_ret
    exact ⟨rfl, bnext (unhide B0) hJ⟩

set_option maxRecDepth 100000 in
set_option maxHeartbeats 1000000 in
theorem joinAlone_in (ds dq kind it is rt rs site : Int) (vd : Value) (text : ByteArray) (a : Option Addr) (n c : Nat) (w : World) :
    Calls Tryz.prog 64 #[.agg #[.int .i64 ds, .int .i64 dq, vd, .int .i64 kind, .int .i64 it, .int .i64 is, .int .i64 rt, .int .i64 rs, .string text, .slice a n c, .int .i64 site], .iface 119 (.agg #[.int .i64 site])] w fun e W => e = .returned (.bool (decide (it = 0) && decide (is = 0) && decide (rt = 0) && decide (rs = 0) && decide (text = ⟨#[]⟩) && decide ((n : Int) = 0))) ∧ Below w.heap.size w W := by
  obtain ⟨E, hE0⟩ : ∃ E, (decide (it = 0) && decide (is = 0) && decide (rt = 0) && decide (rs = 0) && decide (text = ⟨#[]⟩) && decide ((n : Int) = 0)) = E := ⟨_, rfl⟩
  have hE : ∀ W, (binOp .eql 125 (parV it is rt rs text (n : Nat) site) (parV 0 0 0 0 ⟨#[]⟩ ((0 : Nat) : Int) site)).run Tryz.prog W = .ok (.bool E) W := fun W => by
    rw [eqP, ← hE0]
    simp [Bool.and_assoc]
  unfold parV at hE
  rw [hE0]
  clear hE0
  obtain ⟨X, hX⟩ : ∃ X, (w.alloc (.cells #[.int .i64 ds, .int .i64 dq, vd, .int .i64 kind, .int .i64 it, .int .i64 is, .int .i64 rt, .int .i64 rs, .string text, .slice a n c, .int .i64 site] 42)).alloc (.cells #[.int .i64 0, .int .i64 0, .slice none 0 0, .int .i64 0, .int .i64 0, .int .i64 0, .int .i64 0, .int .i64 0, .string ⟨#[]⟩, .slice none 0 0, .int .i64 0] 42) = X := ⟨_, rfl⟩
  have HA : Bx X w.heap.size 42 #[.int .i64 ds, .int .i64 dq, vd, .int .i64 kind, .int .i64 it, .int .i64 is, .int .i64 rt, .int .i64 rs, .string text, .slice a n c, .int .i64 site] := by rw [← hX]; exact (Bx.new w _ _).below (ballc (Below.refl _ _) _)
  have HB : Bx X (w.heap.size + 1) 42 #[.int .i64 0, .int .i64 0, .slice none 0 0, .int .i64 0, .int .i64 0, .int .i64 0, .int .i64 0, .int .i64 0, .string ⟨#[]⟩, .slice none 0 0, .int .i64 0] := by
    rw [← hX]
    have := Bx.new (w.alloc (.cells #[.int .i64 ds, .int .i64 dq, vd, .int .i64 kind, .int .i64 it, .int .i64 is, .int .i64 rt, .int .i64 rs, .string text, .slice a n c, .int .i64 site] 42)) 42 #[.int .i64 0, .int .i64 0, .slice none 0 0, .int .i64 0, .int .i64 0, .int .i64 0, .int .i64 0, .int .i64 0, .string ⟨#[]⟩, .slice none 0 0, .int .i64 0]
    rw [World.size_alloc] at this
    exact this
  have B0 : Below w.heap.size w X := by rw [← hX]; exact ballc (ballc (Below.refl _ _) _) _
  have HF := hide (joinFill_in site _ _ _ _ _ _ _ _ _ _ _ HB)
  have P1 := hide (fun W => partsOf_in ⟨ds, dq, [], kind, it, is, rt, rs, text, [], site⟩ vd a n c W)
  have P2 := hide (fun W => partsOf_in ⟨0, 0, [], 0, 0, 0, 0, 0, ⟨#[]⟩, [], site⟩ (.slice none 0 0) none 0 0 W)
  unfold opA parV at P1 P2
  simp only at P1 P2
  replace HA := hide HA
  replace B0 := hide B0
  clear HB
  have hm := (joi_meth Tryz.underlying96).1
  go_enter Tryz.func64, Tryz.ntmps64
  go_wp2_with fail
  refine (unhide HF).mono ?_
  rintro e Y ⟨rfl, hB, hk⟩
  have HB := hide hB
  replace HA := hide ((unhide HA).kp hk (by omega))
  replace B0 := hide (hk.below (unhide B0) (fun i hi => by omega))
  clear hB hk hX HF
  go_wp2
  refine wp_region_any (by kernel_rfl) ?_
  change wpAny _ _ _ _ _ _ _ (World.drew _)
  refine region_invG 13 (fun j => if j = 5 then 4 else 8 + j) ((0, (.agg #[.int .i64 ds, .int .i64 dq, vd, .int .i64 kind, .int .i64 it, .int .i64 is, .int .i64 rt, .int .i64 rs, .string text, .slice a n c, .int .i64 site])) :: (1, (.iface 119 (.agg #[.int .i64 site]))) :: (2, (.pointer (some ⟨w.heap.size, 0, none⟩))) :: (3, undef) :: (5, (.pointer (some ⟨(w.heap.size + 1), 0, none⟩))) :: (6, (.iface 119 (.agg #[.int .i64 site]))) :: (7, (.tuple #[])) :: [])
    (fun W => Below Y.heap.size Y W)
    (valsOf [isV (.agg #[.int .i64 ds, .int .i64 dq, vd, .int .i64 kind, .int .i64 it, .int .i64 is, .int .i64 rt, .int .i64 rs, .string text, .slice a n c, .int .i64 site]), isV (.agg #[.int .i64 it, .int .i64 is, .int .i64 rt, .int .i64 rs, .string text, .int .i64 (n : Nat), .int .i64 site]), isV (.agg #[.int .i64 0, .int .i64 0, .slice none 0 0, .int .i64 0, .int .i64 0, .int .i64 0, .int .i64 0, .int .i64 0, .string ⟨#[]⟩, .slice none 0 0, .int .i64 site]), isV (.agg #[.int .i64 0, .int .i64 0, .int .i64 0, .int .i64 0, .string ⟨#[]⟩, .int .i64 ((0 : Nat) : Int), .int .i64 site]), isV (.bool E), isV (.bool E)])
    (fun w w' => Below w.heap.size w w') ?fit (fun w1 w2 h hG => h.trans (hG.mono h.size)) (valsOf_stable ?stable) (fun _ => true) [] ?gs ?gv ?steps ?fin _ _ ?sz rfl ?base ?start
  case fit => kernel_rfl
  case sz => rfl
  case gs => kernel_rfl
  case gv => intro p hp w v hv; cases hp
  case base => intro p hp; repeat (first | (rcases List.mem_cons.1 hp with rfl | hp; · rfl) | cases hp)
  case stable => exact Stables.all (by repeat (first | exact .nil | refine .same ?_))
  case start => exact (Below.refl _ _).drew
  case steps =>
    refine .cons (fun ρ wz hρ hJ hb hd => by
      refine Eq.mpr (if_neg (by decide)) ?_
      have dd0 : ρ (.tmp 2) = (.pointer (some ⟨w.heap.size, 0, none⟩)) := hb (2, _) (List.mem_of_getElem? (i := 2) rfl)
      have q := (unhide HA).below hJ
      have x0 := q.cell 0 _ rfl
      have x1 := q.cell 1 _ rfl
      have x2 := q.cell 2 _ rfl
      have x3 := q.cell 3 _ rfl
      have x4 := q.cell 4 _ rfl
      have x5 := q.cell 5 _ rfl
      have x6 := q.cell 6 _ rfl
      have x7 := q.cell 7 _ rfl
      have x8 := q.cell 8 _ rfl
      have x9 := q.cell 9 _ rfl
      have x10 := q.cell 10 _ rfl
      exact step_val (v := (.agg #[.int .i64 ds, .int .i64 dq, vd, .int .i64 kind, .int .i64 it, .int .i64 is, .int .i64 rt, .int .i64 rs, .string text, .slice a n c, .int .i64 site])) (w' := wz) (by simp [go_sem, execOp, dd0, x0, x1, x2, x3, x4, x5, x6, x7, x8, x9, x10]) ⟨Below.refl _ _, rfl⟩) ?_
    refine .cons (fun ρ wz hρ hJ hb hd => by
      refine Eq.mpr (if_neg (by decide)) ?_
      have dd0 : ρ (.tmp 8) = (.agg #[.int .i64 ds, .int .i64 dq, vd, .int .i64 kind, .int .i64 it, .int .i64 is, .int .i64 rt, .int .i64 rs, .string text, .slice a n c, .int .i64 site]) := hd 0 _ rfl rfl
      refine step_func 84 _ _ #[.agg #[.int .i64 ds, .int .i64 dq, vd, .int .i64 kind, .int .i64 it, .int .i64 is, .int .i64 rt, .int .i64 rs, .string text, .slice a n c, .int .i64 site]] hρ rfl (enters_of Tryz.func84 (by kernel_rfl) rfl) (by simp [dd0]) ?_
      refine (unhide P1 wz).mono ?_
      rintro r W' ⟨rfl, hb2⟩
      exact ⟨_, rfl, hb2, rfl⟩) ?_
    refine .cons (fun ρ wz hρ hJ hb hd => by
      refine Eq.mpr (if_neg (by decide)) ?_
      have dd0 : ρ (.tmp 5) = (.pointer (some ⟨(w.heap.size + 1), 0, none⟩)) := hb (5, _) (List.mem_of_getElem? (i := 4) rfl)
      have q := (unhide HB).below hJ
      have x0 := q.cell 0 _ rfl
      have x1 := q.cell 1 _ rfl
      have x2 := q.cell 2 _ rfl
      have x3 := q.cell 3 _ rfl
      have x4 := q.cell 4 _ rfl
      have x5 := q.cell 5 _ rfl
      have x6 := q.cell 6 _ rfl
      have x7 := q.cell 7 _ rfl
      have x8 := q.cell 8 _ rfl
      have x9 := q.cell 9 _ rfl
      have x10 := q.cell 10 _ rfl
      exact step_val (v := (.agg #[.int .i64 0, .int .i64 0, .slice none 0 0, .int .i64 0, .int .i64 0, .int .i64 0, .int .i64 0, .int .i64 0, .string ⟨#[]⟩, .slice none 0 0, .int .i64 site])) (w' := wz) (by simp [go_sem, execOp, dd0, x0, x1, x2, x3, x4, x5, x6, x7, x8, x9, x10]) ⟨Below.refl _ _, rfl⟩) ?_
    refine .cons (fun ρ wz hρ hJ hb hd => by
      refine Eq.mpr (if_neg (by decide)) ?_
      have dd0 : ρ (.tmp 10) = (.agg #[.int .i64 0, .int .i64 0, .slice none 0 0, .int .i64 0, .int .i64 0, .int .i64 0, .int .i64 0, .int .i64 0, .string ⟨#[]⟩, .slice none 0 0, .int .i64 site]) := hd 0 _ rfl rfl
      refine step_func 84 _ _ #[.agg #[.int .i64 0, .int .i64 0, .slice none 0 0, .int .i64 0, .int .i64 0, .int .i64 0, .int .i64 0, .int .i64 0, .string ⟨#[]⟩, .slice none 0 0, .int .i64 site]] hρ rfl (enters_of Tryz.func84 (by kernel_rfl) rfl) (by simp [dd0]) ?_
      refine (unhide P2 wz).mono ?_
      rintro r W' ⟨rfl, hb2⟩
      exact ⟨_, rfl, hb2, rfl⟩) ?_
    refine .cons (fun ρ wz hρ hJ hb hd => by
      refine Eq.mpr (if_neg (by decide)) ?_
      have dd0 : ρ (.tmp 9) = (.agg #[.int .i64 it, .int .i64 is, .int .i64 rt, .int .i64 rs, .string text, .int .i64 (n : Nat), .int .i64 site]) := hd 0 _ rfl rfl
      have dd1 : ρ (.tmp 11) = (.agg #[.int .i64 0, .int .i64 0, .int .i64 0, .int .i64 0, .string ⟨#[]⟩, .int .i64 ((0 : Nat) : Int), .int .i64 site]) := hd 1 _ rfl rfl
      exact step_val (v := (.bool E)) (w' := wz) (by simp only [execOp, dd0, dd1, Sem.run_bind, Sem.run_pure, run_eqGuard_agg _ _ _ _ _ _ _ Tryz.eqGuardType125, hE, Result.andThen_ok]) ⟨Below.refl _ _, rfl⟩) ?_
    refine .cons (fun ρ wz hρ hJ hb hd => by
      refine Eq.mpr (if_neg (by decide)) ?_
      have dd0 : ρ (.tmp 12) = (.bool E) := hd 0 _ rfl rfl
      exact step_assign (.tmp 12) rfl ⟨Below.refl _ _, dd0⟩) (.nil _)
  case fin =>
    intro aQ WQ hsz2 hds hb hJ hv
    obtain rfl := frame_of (((0, (.agg #[.int .i64 ds, .int .i64 dq, vd, .int .i64 kind, .int .i64 it, .int .i64 is, .int .i64 rt, .int .i64 rs, .string text, .slice a n c, .int .i64 site])) :: (1, (.iface 119 (.agg #[.int .i64 site]))) :: (2, (.pointer (some ⟨w.heap.size, 0, none⟩))) :: (3, undef) :: (5, (.pointer (some ⟨(w.heap.size + 1), 0, none⟩))) :: (6, (.iface 119 (.agg #[.int .i64 site]))) :: (7, (.tuple #[])) :: []) ++ ((8, (.agg #[.int .i64 ds, .int .i64 dq, vd, .int .i64 kind, .int .i64 it, .int .i64 is, .int .i64 rt, .int .i64 rs, .string text, .slice a n c, .int .i64 site])) :: (9, (.agg #[.int .i64 it, .int .i64 is, .int .i64 rt, .int .i64 rs, .string text, .int .i64 (n : Nat), .int .i64 site])) :: (10, (.agg #[.int .i64 0, .int .i64 0, .slice none 0 0, .int .i64 0, .int .i64 0, .int .i64 0, .int .i64 0, .int .i64 0, .string ⟨#[]⟩, .slice none 0 0, .int .i64 site])) :: (11, (.agg #[.int .i64 0, .int .i64 0, .int .i64 0, .int .i64 0, .string ⟨#[]⟩, .int .i64 ((0 : Nat) : Int), .int .i64 site])) :: (12, (.bool E)) :: (4, (.bool E)) :: [])) ((.agg #[.int .i64 ds, .int .i64 dq, vd, .int .i64 kind, .int .i64 it, .int .i64 is, .int .i64 rt, .int .i64 rs, .string text, .slice a n c, .int .i64 site]) :: (.iface 119 (.agg #[.int .i64 site])) :: (.pointer (some ⟨w.heap.size, 0, none⟩)) :: undef :: (.bool E) :: (.pointer (some ⟨(w.heap.size + 1), 0, none⟩)) :: (.iface 119 (.agg #[.int .i64 site])) :: (.tuple #[]) :: (.agg #[.int .i64 ds, .int .i64 dq, vd, .int .i64 kind, .int .i64 it, .int .i64 is, .int .i64 rt, .int .i64 rs, .string text, .slice a n c, .int .i64 site]) :: (.agg #[.int .i64 it, .int .i64 is, .int .i64 rt, .int .i64 rs, .string text, .int .i64 (n : Nat), .int .i64 site]) :: (.agg #[.int .i64 0, .int .i64 0, .slice none 0 0, .int .i64 0, .int .i64 0, .int .i64 0, .int .i64 0, .int .i64 0, .string ⟨#[]⟩, .slice none 0 0, .int .i64 site]) :: (.agg #[.int .i64 0, .int .i64 0, .int .i64 0, .int .i64 0, .string ⟨#[]⟩, .int .i64 ((0 : Nat) : Int), .int .i64 site]) :: (.bool E) :: []) hsz2 hds (fun p hp => by
      rcases List.mem_append.1 hp with h | h
      · exact hb p h
      · simp only [List.mem_cons, List.not_mem_nil, or_false] at h
        rcases h with rfl | rfl | rfl | rfl | rfl | rfl
        · exact hv 0 (by decide)
        · exact hv 1 (by decide)
        · exact hv 2 (by decide)
        · exact hv 3 (by decide)
        · exact hv 4 (by decide)
        · exact hv 5 (by decide)) rfl
    clear hb hds hsz2 hv
    go_wp2
    go_ret
    exact ⟨rfl, bnext (unhide B0) hJ⟩

set_option maxRecDepth 100000 in
set_option maxHeartbeats 1000000 in
theorem leaveAlone_in (ds dq kind it is rt rs site : Int) (vd : Value) (text : ByteArray) (a : Option Addr) (n c : Nat) (w : World) :
    Calls Tryz.prog 64 #[.agg #[.int .i64 ds, .int .i64 dq, vd, .int .i64 kind, .int .i64 it, .int .i64 is, .int .i64 rt, .int .i64 rs, .string text, .slice a n c, .int .i64 site], .iface 121 (.agg #[])] w fun e W => e = .returned (.bool (decide (it = 0) && decide (is = 0) && decide (rt = 0) && decide (rs = 0) && decide (text = ⟨#[]⟩) && decide ((n : Int) = 0) && decide (site = 0))) ∧ Below w.heap.size w W := by
  obtain ⟨E, hE0⟩ : ∃ E, (decide (it = 0) && decide (is = 0) && decide (rt = 0) && decide (rs = 0) && decide (text = ⟨#[]⟩) && decide ((n : Int) = 0) && decide (site = 0)) = E := ⟨_, rfl⟩
  have hE : ∀ W, (binOp .eql 125 (parV it is rt rs text (n : Nat) site) (parV 0 0 0 0 ⟨#[]⟩ ((0 : Nat) : Int) 0)).run Tryz.prog W = .ok (.bool E) W := fun W => by
    rw [eqP, ← hE0]
    simp [Bool.and_assoc]
  unfold parV at hE
  rw [hE0]
  clear hE0
  obtain ⟨X, hX⟩ : ∃ X, (w.alloc (.cells #[.int .i64 ds, .int .i64 dq, vd, .int .i64 kind, .int .i64 it, .int .i64 is, .int .i64 rt, .int .i64 rs, .string text, .slice a n c, .int .i64 site] 42)).alloc (.cells #[.int .i64 0, .int .i64 0, .slice none 0 0, .int .i64 0, .int .i64 0, .int .i64 0, .int .i64 0, .int .i64 0, .string ⟨#[]⟩, .slice none 0 0, .int .i64 0] 42) = X := ⟨_, rfl⟩
  have HA : Bx X w.heap.size 42 #[.int .i64 ds, .int .i64 dq, vd, .int .i64 kind, .int .i64 it, .int .i64 is, .int .i64 rt, .int .i64 rs, .string text, .slice a n c, .int .i64 site] := by rw [← hX]; exact (Bx.new w _ _).below (ballc (Below.refl _ _) _)
  have HB : Bx X (w.heap.size + 1) 42 #[.int .i64 0, .int .i64 0, .slice none 0 0, .int .i64 0, .int .i64 0, .int .i64 0, .int .i64 0, .int .i64 0, .string ⟨#[]⟩, .slice none 0 0, .int .i64 0] := by
    rw [← hX]
    have := Bx.new (w.alloc (.cells #[.int .i64 ds, .int .i64 dq, vd, .int .i64 kind, .int .i64 it, .int .i64 is, .int .i64 rt, .int .i64 rs, .string text, .slice a n c, .int .i64 site] 42)) 42 #[.int .i64 0, .int .i64 0, .slice none 0 0, .int .i64 0, .int .i64 0, .int .i64 0, .int .i64 0, .int .i64 0, .string ⟨#[]⟩, .slice none 0 0, .int .i64 0]
    rw [World.size_alloc] at this
    exact this
  have B0 : Below w.heap.size w X := by rw [← hX]; exact ballc (ballc (Below.refl _ _) _) _
  have HF := hide (leaveFill_in _ _ _ _ _ _ _ _ _ _ _ HB)
  have P1 := hide (fun W => partsOf_in ⟨ds, dq, [], kind, it, is, rt, rs, text, [], site⟩ vd a n c W)
  have P2 := hide (fun W => partsOf_in ⟨0, 0, [], 0, 0, 0, 0, 0, ⟨#[]⟩, [], 0⟩ (.slice none 0 0) none 0 0 W)
  unfold opA parV at P1 P2
  simp only at P1 P2
  replace HA := hide HA
  replace B0 := hide B0
  clear HB
  have hm := (lea_meth Tryz.underlying96).1
  go_enter Tryz.func64, Tryz.ntmps64
  go_wp2_with fail
  refine (unhide HF).mono ?_
  rintro e Y ⟨rfl, hB, hk⟩
  have HB := hide hB
  replace HA := hide ((unhide HA).kp hk (by omega))
  replace B0 := hide (hk.below (unhide B0) (fun i hi => by omega))
  clear hB hk hX HF
  go_wp2
  refine wp_region_any (by kernel_rfl) ?_
  change wpAny _ _ _ _ _ _ _ (World.drew _)
  refine region_invG 13 (fun j => if j = 5 then 4 else 8 + j) ((0, (.agg #[.int .i64 ds, .int .i64 dq, vd, .int .i64 kind, .int .i64 it, .int .i64 is, .int .i64 rt, .int .i64 rs, .string text, .slice a n c, .int .i64 site])) :: (1, (.iface 121 (.agg #[]))) :: (2, (.pointer (some ⟨w.heap.size, 0, none⟩))) :: (3, undef) :: (5, (.pointer (some ⟨(w.heap.size + 1), 0, none⟩))) :: (6, (.iface 121 (.agg #[]))) :: (7, (.tuple #[])) :: [])
    (fun W => Below Y.heap.size Y W)
    (valsOf [isV (.agg #[.int .i64 ds, .int .i64 dq, vd, .int .i64 kind, .int .i64 it, .int .i64 is, .int .i64 rt, .int .i64 rs, .string text, .slice a n c, .int .i64 site]), isV (.agg #[.int .i64 it, .int .i64 is, .int .i64 rt, .int .i64 rs, .string text, .int .i64 (n : Nat), .int .i64 site]), isV (.agg #[.int .i64 0, .int .i64 0, .slice none 0 0, .int .i64 0, .int .i64 0, .int .i64 0, .int .i64 0, .int .i64 0, .string ⟨#[]⟩, .slice none 0 0, .int .i64 0]), isV (.agg #[.int .i64 0, .int .i64 0, .int .i64 0, .int .i64 0, .string ⟨#[]⟩, .int .i64 ((0 : Nat) : Int), .int .i64 0]), isV (.bool E), isV (.bool E)])
    (fun w w' => Below w.heap.size w w') ?fit (fun w1 w2 h hG => h.trans (hG.mono h.size)) (valsOf_stable ?stable) (fun _ => true) [] ?gs ?gv ?steps ?fin _ _ ?sz rfl ?base ?start
  case fit => kernel_rfl
  case sz => rfl
  case gs => kernel_rfl
  case gv => intro p hp w v hv; cases hp
  case base => intro p hp; repeat (first | (rcases List.mem_cons.1 hp with rfl | hp; · rfl) | cases hp)
  case stable => exact Stables.all (by repeat (first | exact .nil | refine .same ?_))
  case start => exact (Below.refl _ _).drew
  case steps =>
    refine .cons (fun ρ wz hρ hJ hb hd => by
      refine Eq.mpr (if_neg (by decide)) ?_
      have dd0 : ρ (.tmp 2) = (.pointer (some ⟨w.heap.size, 0, none⟩)) := hb (2, _) (List.mem_of_getElem? (i := 2) rfl)
      have q := (unhide HA).below hJ
      have x0 := q.cell 0 _ rfl
      have x1 := q.cell 1 _ rfl
      have x2 := q.cell 2 _ rfl
      have x3 := q.cell 3 _ rfl
      have x4 := q.cell 4 _ rfl
      have x5 := q.cell 5 _ rfl
      have x6 := q.cell 6 _ rfl
      have x7 := q.cell 7 _ rfl
      have x8 := q.cell 8 _ rfl
      have x9 := q.cell 9 _ rfl
      have x10 := q.cell 10 _ rfl
      exact step_val (v := (.agg #[.int .i64 ds, .int .i64 dq, vd, .int .i64 kind, .int .i64 it, .int .i64 is, .int .i64 rt, .int .i64 rs, .string text, .slice a n c, .int .i64 site])) (w' := wz) (by simp [go_sem, execOp, dd0, x0, x1, x2, x3, x4, x5, x6, x7, x8, x9, x10]) ⟨Below.refl _ _, rfl⟩) ?_
    refine .cons (fun ρ wz hρ hJ hb hd => by
      refine Eq.mpr (if_neg (by decide)) ?_
      have dd0 : ρ (.tmp 8) = (.agg #[.int .i64 ds, .int .i64 dq, vd, .int .i64 kind, .int .i64 it, .int .i64 is, .int .i64 rt, .int .i64 rs, .string text, .slice a n c, .int .i64 site]) := hd 0 _ rfl rfl
      refine step_func 84 _ _ #[.agg #[.int .i64 ds, .int .i64 dq, vd, .int .i64 kind, .int .i64 it, .int .i64 is, .int .i64 rt, .int .i64 rs, .string text, .slice a n c, .int .i64 site]] hρ rfl (enters_of Tryz.func84 (by kernel_rfl) rfl) (by simp [dd0]) ?_
      refine (unhide P1 wz).mono ?_
      rintro r W' ⟨rfl, hb2⟩
      exact ⟨_, rfl, hb2, rfl⟩) ?_
    refine .cons (fun ρ wz hρ hJ hb hd => by
      refine Eq.mpr (if_neg (by decide)) ?_
      have dd0 : ρ (.tmp 5) = (.pointer (some ⟨(w.heap.size + 1), 0, none⟩)) := hb (5, _) (List.mem_of_getElem? (i := 4) rfl)
      have q := (unhide HB).below hJ
      have x0 := q.cell 0 _ rfl
      have x1 := q.cell 1 _ rfl
      have x2 := q.cell 2 _ rfl
      have x3 := q.cell 3 _ rfl
      have x4 := q.cell 4 _ rfl
      have x5 := q.cell 5 _ rfl
      have x6 := q.cell 6 _ rfl
      have x7 := q.cell 7 _ rfl
      have x8 := q.cell 8 _ rfl
      have x9 := q.cell 9 _ rfl
      have x10 := q.cell 10 _ rfl
      exact step_val (v := (.agg #[.int .i64 0, .int .i64 0, .slice none 0 0, .int .i64 0, .int .i64 0, .int .i64 0, .int .i64 0, .int .i64 0, .string ⟨#[]⟩, .slice none 0 0, .int .i64 0])) (w' := wz) (by simp [go_sem, execOp, dd0, x0, x1, x2, x3, x4, x5, x6, x7, x8, x9, x10]) ⟨Below.refl _ _, rfl⟩) ?_
    refine .cons (fun ρ wz hρ hJ hb hd => by
      refine Eq.mpr (if_neg (by decide)) ?_
      have dd0 : ρ (.tmp 10) = (.agg #[.int .i64 0, .int .i64 0, .slice none 0 0, .int .i64 0, .int .i64 0, .int .i64 0, .int .i64 0, .int .i64 0, .string ⟨#[]⟩, .slice none 0 0, .int .i64 0]) := hd 0 _ rfl rfl
      refine step_func 84 _ _ #[.agg #[.int .i64 0, .int .i64 0, .slice none 0 0, .int .i64 0, .int .i64 0, .int .i64 0, .int .i64 0, .int .i64 0, .string ⟨#[]⟩, .slice none 0 0, .int .i64 0]] hρ rfl (enters_of Tryz.func84 (by kernel_rfl) rfl) (by simp [dd0]) ?_
      refine (unhide P2 wz).mono ?_
      rintro r W' ⟨rfl, hb2⟩
      exact ⟨_, rfl, hb2, rfl⟩) ?_
    refine .cons (fun ρ wz hρ hJ hb hd => by
      refine Eq.mpr (if_neg (by decide)) ?_
      have dd0 : ρ (.tmp 9) = (.agg #[.int .i64 it, .int .i64 is, .int .i64 rt, .int .i64 rs, .string text, .int .i64 (n : Nat), .int .i64 site]) := hd 0 _ rfl rfl
      have dd1 : ρ (.tmp 11) = (.agg #[.int .i64 0, .int .i64 0, .int .i64 0, .int .i64 0, .string ⟨#[]⟩, .int .i64 ((0 : Nat) : Int), .int .i64 0]) := hd 1 _ rfl rfl
      exact step_val (v := (.bool E)) (w' := wz) (by simp only [execOp, dd0, dd1, Sem.run_bind, Sem.run_pure, run_eqGuard_agg _ _ _ _ _ _ _ Tryz.eqGuardType125, hE, Result.andThen_ok]) ⟨Below.refl _ _, rfl⟩) ?_
    refine .cons (fun ρ wz hρ hJ hb hd => by
      refine Eq.mpr (if_neg (by decide)) ?_
      have dd0 : ρ (.tmp 12) = (.bool E) := hd 0 _ rfl rfl
      exact step_assign (.tmp 12) rfl ⟨Below.refl _ _, dd0⟩) (.nil _)
  case fin =>
    intro aQ WQ hsz2 hds hb hJ hv
    obtain rfl := frame_of (((0, (.agg #[.int .i64 ds, .int .i64 dq, vd, .int .i64 kind, .int .i64 it, .int .i64 is, .int .i64 rt, .int .i64 rs, .string text, .slice a n c, .int .i64 site])) :: (1, (.iface 121 (.agg #[]))) :: (2, (.pointer (some ⟨w.heap.size, 0, none⟩))) :: (3, undef) :: (5, (.pointer (some ⟨(w.heap.size + 1), 0, none⟩))) :: (6, (.iface 121 (.agg #[]))) :: (7, (.tuple #[])) :: []) ++ ((8, (.agg #[.int .i64 ds, .int .i64 dq, vd, .int .i64 kind, .int .i64 it, .int .i64 is, .int .i64 rt, .int .i64 rs, .string text, .slice a n c, .int .i64 site])) :: (9, (.agg #[.int .i64 it, .int .i64 is, .int .i64 rt, .int .i64 rs, .string text, .int .i64 (n : Nat), .int .i64 site])) :: (10, (.agg #[.int .i64 0, .int .i64 0, .slice none 0 0, .int .i64 0, .int .i64 0, .int .i64 0, .int .i64 0, .int .i64 0, .string ⟨#[]⟩, .slice none 0 0, .int .i64 0])) :: (11, (.agg #[.int .i64 0, .int .i64 0, .int .i64 0, .int .i64 0, .string ⟨#[]⟩, .int .i64 ((0 : Nat) : Int), .int .i64 0])) :: (12, (.bool E)) :: (4, (.bool E)) :: [])) ((.agg #[.int .i64 ds, .int .i64 dq, vd, .int .i64 kind, .int .i64 it, .int .i64 is, .int .i64 rt, .int .i64 rs, .string text, .slice a n c, .int .i64 site]) :: (.iface 121 (.agg #[])) :: (.pointer (some ⟨w.heap.size, 0, none⟩)) :: undef :: (.bool E) :: (.pointer (some ⟨(w.heap.size + 1), 0, none⟩)) :: (.iface 121 (.agg #[])) :: (.tuple #[]) :: (.agg #[.int .i64 ds, .int .i64 dq, vd, .int .i64 kind, .int .i64 it, .int .i64 is, .int .i64 rt, .int .i64 rs, .string text, .slice a n c, .int .i64 site]) :: (.agg #[.int .i64 it, .int .i64 is, .int .i64 rt, .int .i64 rs, .string text, .int .i64 (n : Nat), .int .i64 site]) :: (.agg #[.int .i64 0, .int .i64 0, .slice none 0 0, .int .i64 0, .int .i64 0, .int .i64 0, .int .i64 0, .int .i64 0, .string ⟨#[]⟩, .slice none 0 0, .int .i64 0]) :: (.agg #[.int .i64 0, .int .i64 0, .int .i64 0, .int .i64 0, .string ⟨#[]⟩, .int .i64 ((0 : Nat) : Int), .int .i64 0]) :: (.bool E) :: []) hsz2 hds (fun p hp => by
      rcases List.mem_append.1 hp with h | h
      · exact hb p h
      · simp only [List.mem_cons, List.not_mem_nil, or_false] at h
        rcases h with rfl | rfl | rfl | rfl | rfl | rfl
        · exact hv 0 (by decide)
        · exact hv 1 (by decide)
        · exact hv 2 (by decide)
        · exact hv 3 (by decide)
        · exact hv 4 (by decide)
        · exact hv 5 (by decide)) rfl
    clear hb hds hsz2 hv
    go_wp2
    go_ret
    exact ⟨rfl, bnext (unhide B0) hJ⟩

end Go.Proofs.YtkkolefionbbcaaGreat
