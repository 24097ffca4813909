/-
  Operations: an insertion's holds; follows.
-/
import Derived.Test.YtkkolefionbbcaaGreatZXO1
import Derived.Test.YtkkolefionbbcaaGreatZXReg
set_option linter.unusedSimpArgs false
set_option linter.unusedVariables false
namespace Go.Proofs.YtkkolefionbbcaaGreat
open Go.RowKit Go.Lib

set_option maxRecDepth 100000 in
set_option maxHeartbeats 1000000 in
theorem insHolds_in (it is rt rs : Int) (t : ByteArray) (x : Int) (w : World) (ht : t.size ≤ 140737488355328) (h1 : in64 it) (h2 : in64 is) (h3 : in64 rt) (h4 : in64 rs) :
    Calls Tryz.prog 137 #[.agg #[.int .i64 it, .int .i64 is, .int .i64 rt, .int .i64 rs, .string t], .int .i64 x] w fun e W => e = .returned (.bool (insO x it is rt rs t)) ∧ Below w.heap.size w W := by
  have HT := hide (fun W => textHolds_in it is rt rs t W ht)
  have HC := hide (fun W => count_in t ht W)
  rw [show (((allL t).length : Nat) : Int) = cntO t from rfl] at HC
  have HR := hide (fun W => oRun_in it is (cntO t) W h1 h2 (by have := cntO_in t ht; constructor <;> omega))
  have HF := hide (fun W => refHolds_in it is rt rs t W h3 h4)
  obtain ⟨X, hX⟩ : ∃ X, w.alloc (.cells #[.int .i64 it, .int .i64 is, .int .i64 rt, .int .i64 rs, .string t] 115) = X := ⟨_, rfl⟩
  have HX : Hid (Bx X w.heap.size 115 #[.int .i64 it, .int .i64 is, .int .i64 rt, .int .i64 rs, .string t]) := by rw [← hX]; exact Bx.new w _ _
  have B0 : Hid (Below w.heap.size w X) := by rw [← hX]; exact ballc (Below.refl _ _) _
  unfold insO
  clear h1 h2 h3 h4 ht
  generalize cntO t = C at *
  generalize refO it rt rs = F at *
  cases hT : textO t
  · rw [hT] at HT
    simp only [Bool.false_and]
    clear hT
    have hS : True := trivial
    go_enter Tryz.func137, Tryz.ntmps137
    go_wp2
    refine wp_region_any (by kernel_rfl) ?_
    change wpAny _ _ _ _ _ _ _ (World.drew _)
    refine region_invG 26 (fun j => if j = 21 then 4 else 5 + j) ((0, (.agg #[.int .i64 it, .int .i64 is, .int .i64 rt, .int .i64 rs, .string t])) :: (1, (.int .i64 x)) :: (2, (.pointer (some ⟨w.heap.size, 0, none⟩))) :: (3, undef) :: [])
      (fun W => Below X.heap.size X W)
      (valsOf [isV (.agg #[.int .i64 it, .int .i64 is, .int .i64 rt, .int .i64 rs, .string t]), isV (.bool false), isV (.bool false), isV undef, isV undef, isV undef, isV undef, isV undef, isV (.bool false), isV (.bool false), isV undef, isV undef, isV undef, isV undef, isV undef, isV undef, isV (.bool false), isV (.bool false), isV undef, isV undef, isV (.bool false), isV (.bool false)])
      (fun w w' => Below w.heap.size w w') ?fit (fun w1 w2 h hG => h.trans (hG.mono h.size)) (valsOf_stable ?stable) (fun p => match p with | (2, true) => false | (9, true) => false | (17, true) => false | _ => true) [(2, true), (9, true), (17, true)] ?gs ?gv ?steps ?fin _ _ ?sz rfl ?base ?start
    case fit => kernel_rfl
    case sz => rfl
    case gs => kernel_rfl
    case gv => intro p hp w v hv; simp only [List.mem_cons, List.not_mem_nil, or_false] at hp; rcases hp with rfl | rfl | rfl <;> exact hv
    case base => intro p hp; repeat (first | (rcases List.mem_cons.1 hp with rfl | hp; · rfl) | cases hp)
    case stable => exact Stables.all (by repeat (first | exact .nil | refine .same ?_))
    case start => exact (Below.refl _ _).drew
    case steps =>
      refine .cons (fun ρ wz hρ hJ hb hd => by
        refine Eq.mpr (if_neg (by decide)) ?_
        have dd0 : ρ (.tmp 2) = (.pointer (some ⟨w.heap.size, 0, none⟩)) := hb (2, _) (List.mem_of_getElem? (i := 2) rfl)
        have q := (unhide HX).below hJ
        have x0 := q.cell 0 _ rfl
        have x1 := q.cell 1 _ rfl
        have x2 := q.cell 2 _ rfl
        have x3 := q.cell 3 _ rfl
        have x4 := q.cell 4 _ rfl
        exact step_val (v := (.agg #[.int .i64 it, .int .i64 is, .int .i64 rt, .int .i64 rs, .string t])) (w' := wz) (by simp [go_sem, execOp, dd0, x0, x1, x2, x3, x4]) ⟨Below.refl _ _, rfl⟩) ?_
      refine .cons (fun ρ wz hρ hJ hb hd => by
        refine Eq.mpr (if_neg (by decide)) ?_
        have dd0 : ρ (.tmp 5) = (.agg #[.int .i64 it, .int .i64 is, .int .i64 rt, .int .i64 rs, .string t]) := hd 0 _ rfl rfl
        refine step_func 141 _ _ #[.agg #[.int .i64 it, .int .i64 is, .int .i64 rt, .int .i64 rs, .string t]] hρ rfl (enters_of Tryz.func141 (by kernel_rfl) rfl) (by simp [dd0]) ?_
        refine (unhide HT wz).mono ?_
        rintro r W' ⟨rfl, hb2⟩
        exact ⟨_, rfl, hb2, rfl⟩) ?_
      refine .cons (fun ρ wz hρ hJ hb hd => by
        refine Eq.mpr (if_neg (by decide)) ?_
        have dd0 : ρ (.tmp 6) = (.bool false) := hd 0 _ rfl rfl
        exact step_move (.tmp 6) rfl ⟨Below.refl _ _, dd0⟩) ?_
      refine .cons (fun ρ wz hρ hJ hb hd => Eq.mpr (if_pos (by decide)) rfl) ?_
      refine .cons (fun ρ wz hρ hJ hb hd => Eq.mpr (if_pos (by decide)) rfl) ?_
      refine .cons (fun ρ wz hρ hJ hb hd => Eq.mpr (if_pos (by decide)) rfl) ?_
      refine .cons (fun ρ wz hρ hJ hb hd => Eq.mpr (if_pos (by decide)) rfl) ?_
      refine .cons (fun ρ wz hρ hJ hb hd => Eq.mpr (if_pos (by decide)) rfl) ?_
      refine .cons (fun ρ wz hρ hJ hb hd => by
        refine Eq.mpr (if_neg (by decide)) ?_
        have dd0 : ρ (.tmp 7) = (.bool false) := hd 0 _ rfl rfl
        have dd1 : ρ (.tmp 12) = undef := hd 1 _ rfl rfl
        exact step_val (v := (.bool false)) (w' := wz) (by simp [go_sem, execOp, dd0, dd1, hρ.const, hS]) ⟨Below.refl _ _, rfl⟩) ?_
      refine .cons (fun ρ wz hρ hJ hb hd => by
        refine Eq.mpr (if_neg (by decide)) ?_
        have dd0 : ρ (.tmp 13) = (.bool false) := hd 0 _ rfl rfl
        exact step_move (.tmp 13) rfl ⟨Below.refl _ _, dd0⟩) ?_
      refine .cons (fun ρ wz hρ hJ hb hd => Eq.mpr (if_pos (by decide)) rfl) ?_
      refine .cons (fun ρ wz hρ hJ hb hd => Eq.mpr (if_pos (by decide)) rfl) ?_
      refine .cons (fun ρ wz hρ hJ hb hd => Eq.mpr (if_pos (by decide)) rfl) ?_
      refine .cons (fun ρ wz hρ hJ hb hd => Eq.mpr (if_pos (by decide)) rfl) ?_
      refine .cons (fun ρ wz hρ hJ hb hd => Eq.mpr (if_pos (by decide)) rfl) ?_
      refine .cons (fun ρ wz hρ hJ hb hd => Eq.mpr (if_pos (by decide)) rfl) ?_
      refine .cons (fun ρ wz hρ hJ hb hd => by
        refine Eq.mpr (if_neg (by decide)) ?_
        have dd0 : ρ (.tmp 14) = (.bool false) := hd 0 _ rfl rfl
        have dd1 : ρ (.tmp 20) = undef := hd 1 _ rfl rfl
        exact step_val (v := (.bool false)) (w' := wz) (by simp [go_sem, execOp, dd0, dd1, hρ.const, hS]) ⟨Below.refl _ _, rfl⟩) ?_
      refine .cons (fun ρ wz hρ hJ hb hd => by
        refine Eq.mpr (if_neg (by decide)) ?_
        have dd0 : ρ (.tmp 21) = (.bool false) := hd 0 _ rfl rfl
        exact step_move (.tmp 21) rfl ⟨Below.refl _ _, dd0⟩) ?_
      refine .cons (fun ρ wz hρ hJ hb hd => Eq.mpr (if_pos (by decide)) rfl) ?_
      refine .cons (fun ρ wz hρ hJ hb hd => Eq.mpr (if_pos (by decide)) rfl) ?_
      refine .cons (fun ρ wz hρ hJ hb hd => by
        refine Eq.mpr (if_neg (by decide)) ?_
        have dd0 : ρ (.tmp 22) = (.bool false) := hd 0 _ rfl rfl
        have dd1 : ρ (.tmp 24) = undef := hd 1 _ rfl rfl
        exact step_val (v := (.bool false)) (w' := wz) (by simp [go_sem, execOp, dd0, dd1, hρ.const, hS]) ⟨Below.refl _ _, rfl⟩) ?_
      refine .cons (fun ρ wz hρ hJ hb hd => by
        refine Eq.mpr (if_neg (by decide)) ?_
        have dd0 : ρ (.tmp 25) = (.bool false) := hd 0 _ rfl rfl
        exact step_assign (.tmp 25) rfl ⟨Below.refl _ _, dd0⟩) (.nil _)
    case fin =>
      intro aQ WQ hsz2 hds hb hJ hv
      obtain rfl := frame_of (((0, (.agg #[.int .i64 it, .int .i64 is, .int .i64 rt, .int .i64 rs, .string t])) :: (1, (.int .i64 x)) :: (2, (.pointer (some ⟨w.heap.size, 0, none⟩))) :: (3, undef) :: []) ++ ((5, (.agg #[.int .i64 it, .int .i64 is, .int .i64 rt, .int .i64 rs, .string t])) :: (6, (.bool false)) :: (7, (.bool false)) :: (8, undef) :: (9, undef) :: (10, undef) :: (11, undef) :: (12, undef) :: (13, (.bool false)) :: (14, (.bool false)) :: (15, undef) :: (16, undef) :: (17, undef) :: (18, undef) :: (19, undef) :: (20, undef) :: (21, (.bool false)) :: (22, (.bool false)) :: (23, undef) :: (24, undef) :: (25, (.bool false)) :: (4, (.bool false)) :: [])) ((.agg #[.int .i64 it, .int .i64 is, .int .i64 rt, .int .i64 rs, .string t]) :: (.int .i64 x) :: (.pointer (some ⟨w.heap.size, 0, none⟩)) :: undef :: (.bool false) :: (.agg #[.int .i64 it, .int .i64 is, .int .i64 rt, .int .i64 rs, .string t]) :: (.bool false) :: (.bool false) :: undef :: undef :: undef :: undef :: undef :: (.bool false) :: (.bool false) :: undef :: undef :: undef :: undef :: undef :: undef :: (.bool false) :: (.bool false) :: undef :: undef :: (.bool false) :: []) hsz2 hds (fun p hp => by
        rcases List.mem_append.1 hp with h | h
        · exact hb p h
        · simp only [List.mem_cons, List.not_mem_nil, or_false] at h
          rcases h with rfl | rfl | rfl | rfl | rfl | rfl | rfl | rfl | rfl | rfl | rfl | rfl | rfl | rfl | rfl | rfl | rfl | rfl | rfl | rfl | rfl | rfl
          · exact hv 0 (by decide)
          · exact hv 1 (by decide)
          · exact hv 2 (by decide)
          · exact hv 3 (by decide)
          · exact hv 4 (by decide)
          · exact hv 5 (by decide)
          · exact hv 6 (by decide)
          · exact hv 7 (by decide)
          · exact hv 8 (by decide)
          · exact hv 9 (by decide)
          · exact hv 10 (by decide)
          · exact hv 11 (by decide)
          · exact hv 12 (by decide)
          · exact hv 13 (by decide)
          · exact hv 14 (by decide)
          · exact hv 15 (by decide)
          · exact hv 16 (by decide)
          · exact hv 17 (by decide)
          · exact hv 18 (by decide)
          · exact hv 19 (by decide)
          · exact hv 20 (by decide)
          · exact hv 21 (by decide)) rfl
      clear hb hds hsz2 hv
      go_wp2
      go_ret
      exact ⟨rfl, bnext (unhide B0) hJ⟩
  · rw [hT] at HT
    simp only [Bool.true_and]
    clear hT
    by_cases hS : is = x
    · rw [decide_eq_true hS]
      subst hS
      have hS : True := trivial
      simp only [Bool.true_and]
      cases hR : isR ((it, is), C)
      · rw [hR] at HR
        simp only [Bool.false_and]
        clear hR
        go_enter Tryz.func137, Tryz.ntmps137
        go_wp2
        refine wp_region_any (by kernel_rfl) ?_
        change wpAny _ _ _ _ _ _ _ (World.drew _)
        refine region_invG 26 (fun j => if j = 21 then 4 else 5 + j) ((0, (.agg #[.int .i64 it, .int .i64 is, .int .i64 rt, .int .i64 rs, .string t])) :: (1, (.int .i64 is)) :: (2, (.pointer (some ⟨w.heap.size, 0, none⟩))) :: (3, undef) :: [])
          (fun W => Below X.heap.size X W)
          (valsOf [isV (.agg #[.int .i64 it, .int .i64 is, .int .i64 rt, .int .i64 rs, .string t]), isV (.bool true), isV (.bool true), isV (.pointer (some ⟨w.heap.size, 0, none⟩)), isV (.pointer (some ⟨w.heap.size, 1, none⟩)), isV (.int .i64 is), isV (.int .i64 is), isV (.bool true), isV (.bool true), isV (.bool true), isV (.pointer (some ⟨w.heap.size, 0, none⟩)), isV (.agg #[.int .i64 it, .int .i64 is]), isV (.pointer (some ⟨w.heap.size, 4, none⟩)), isV (.string t), isV (.int .i64 C), isV (.bool false), isV (.bool false), isV (.bool false), isV undef, isV undef, isV (.bool false), isV (.bool false)])
          (fun w w' => Below w.heap.size w w') ?fit (fun w1 w2 h hG => h.trans (hG.mono h.size)) (valsOf_stable ?stable) (fun p => match p with | (2, true) => true | (9, true) => true | (17, true) => false | _ => true) [(2, true), (9, true), (17, true)] ?gs ?gv ?steps ?fin _ _ ?sz rfl ?base ?start
        case fit => kernel_rfl
        case sz => rfl
        case gs => kernel_rfl
        case gv => intro p hp w v hv; simp only [List.mem_cons, List.not_mem_nil, or_false] at hp; rcases hp with rfl | rfl | rfl <;> exact hv
        case base => intro p hp; repeat (first | (rcases List.mem_cons.1 hp with rfl | hp; · rfl) | cases hp)
        case stable => exact Stables.all (by repeat (first | exact .nil | refine .same ?_))
        case start => exact (Below.refl _ _).drew
        case steps =>
          refine .cons (fun ρ wz hρ hJ hb hd => by
            refine Eq.mpr (if_neg (by decide)) ?_
            have dd0 : ρ (.tmp 2) = (.pointer (some ⟨w.heap.size, 0, none⟩)) := hb (2, _) (List.mem_of_getElem? (i := 2) rfl)
            have q := (unhide HX).below hJ
            have x0 := q.cell 0 _ rfl
            have x1 := q.cell 1 _ rfl
            have x2 := q.cell 2 _ rfl
            have x3 := q.cell 3 _ rfl
            have x4 := q.cell 4 _ rfl
            exact step_val (v := (.agg #[.int .i64 it, .int .i64 is, .int .i64 rt, .int .i64 rs, .string t])) (w' := wz) (by simp [go_sem, execOp, dd0, x0, x1, x2, x3, x4]) ⟨Below.refl _ _, rfl⟩) ?_
          refine .cons (fun ρ wz hρ hJ hb hd => by
            refine Eq.mpr (if_neg (by decide)) ?_
            have dd0 : ρ (.tmp 5) = (.agg #[.int .i64 it, .int .i64 is, .int .i64 rt, .int .i64 rs, .string t]) := hd 0 _ rfl rfl
            refine step_func 141 _ _ #[.agg #[.int .i64 it, .int .i64 is, .int .i64 rt, .int .i64 rs, .string t]] hρ rfl (enters_of Tryz.func141 (by kernel_rfl) rfl) (by simp [dd0]) ?_
            refine (unhide HT wz).mono ?_
            rintro r W' ⟨rfl, hb2⟩
            exact ⟨_, rfl, hb2, rfl⟩) ?_
          refine .cons (fun ρ wz hρ hJ hb hd => by
            refine Eq.mpr (if_neg (by decide)) ?_
            have dd0 : ρ (.tmp 6) = (.bool true) := hd 0 _ rfl rfl
            exact step_move (.tmp 6) rfl ⟨Below.refl _ _, dd0⟩) ?_
          refine .cons (fun ρ wz hρ hJ hb hd => by
            refine Eq.mpr (if_neg (by decide)) ?_
            have dd0 : ρ (.tmp 2) = (.pointer (some ⟨w.heap.size, 0, none⟩)) := hb (2, _) (List.mem_of_getElem? (i := 2) rfl)
            exact step_val (v := (.pointer (some ⟨w.heap.size, 0, none⟩))) (w' := wz) (by simp [go_sem, execOp, dd0, hρ.const, hS]) ⟨Below.refl _ _, rfl⟩) ?_
          refine .cons (fun ρ wz hρ hJ hb hd => by
            refine Eq.mpr (if_neg (by decide)) ?_
            have dd0 : ρ (.tmp 8) = (.pointer (some ⟨w.heap.size, 0, none⟩)) := hd 0 _ rfl rfl
            exact step_val (v := (.pointer (some ⟨w.heap.size, 1, none⟩))) (w' := wz) (by simp [go_sem, execOp, dd0, hρ.const, hS]) ⟨Below.refl _ _, rfl⟩) ?_
          refine .cons (fun ρ wz hρ hJ hb hd => by
            refine Eq.mpr (if_neg (by decide)) ?_
            have dd0 : ρ (.tmp 9) = (.pointer (some ⟨w.heap.size, 1, none⟩)) := hd 0 _ rfl rfl
            have q := (unhide HX).below hJ
            have x0 := q.cell 0 _ rfl
            have x1 := q.cell 1 _ rfl
            have x2 := q.cell 2 _ rfl
            have x3 := q.cell 3 _ rfl
            have x4 := q.cell 4 _ rfl
            exact step_val (v := (.int .i64 is)) (w' := wz) (by simp [go_sem, execOp, dd0, x0, x1, x2, x3, x4]) ⟨Below.refl _ _, rfl⟩) ?_
          refine .cons (fun ρ wz hρ hJ hb hd => by
            refine Eq.mpr (if_neg (by decide)) ?_
            have dd0 : ρ (.tmp 1) = (.int .i64 is) := hb (1, _) (List.mem_of_getElem? (i := 1) rfl)
            exact step_move (.tmp 1) rfl ⟨Below.refl _ _, dd0⟩) ?_
          refine .cons (fun ρ wz hρ hJ hb hd => by
            refine Eq.mpr (if_neg (by decide)) ?_
            have dd0 : ρ (.tmp 10) = (.int .i64 is) := hd 0 _ rfl rfl
            have dd1 : ρ (.tmp 11) = (.int .i64 is) := hd 1 _ rfl rfl
            exact step_val (v := (.bool true)) (w' := wz) (by simp [go_sem, execOp, dd0, dd1, hρ.const, hS]) ⟨Below.refl _ _, rfl⟩) ?_
          refine .cons (fun ρ wz hρ hJ hb hd => by
            refine Eq.mpr (if_neg (by decide)) ?_
            have dd0 : ρ (.tmp 7) = (.bool true) := hd 0 _ rfl rfl
            have dd1 : ρ (.tmp 12) = (.bool true) := hd 1 _ rfl rfl
            exact step_val (v := (.bool true)) (w' := wz) (by simp [go_sem, execOp, dd0, dd1, hρ.const, hS]) ⟨Below.refl _ _, rfl⟩) ?_
          refine .cons (fun ρ wz hρ hJ hb hd => by
            refine Eq.mpr (if_neg (by decide)) ?_
            have dd0 : ρ (.tmp 13) = (.bool true) := hd 0 _ rfl rfl
            exact step_move (.tmp 13) rfl ⟨Below.refl _ _, dd0⟩) ?_
          refine .cons (fun ρ wz hρ hJ hb hd => by
            refine Eq.mpr (if_neg (by decide)) ?_
            have dd0 : ρ (.tmp 2) = (.pointer (some ⟨w.heap.size, 0, none⟩)) := hb (2, _) (List.mem_of_getElem? (i := 2) rfl)
            exact step_val (v := (.pointer (some ⟨w.heap.size, 0, none⟩))) (w' := wz) (by simp [go_sem, execOp, dd0, hρ.const, hS]) ⟨Below.refl _ _, rfl⟩) ?_
          refine .cons (fun ρ wz hρ hJ hb hd => by
            refine Eq.mpr (if_neg (by decide)) ?_
            have dd0 : ρ (.tmp 15) = (.pointer (some ⟨w.heap.size, 0, none⟩)) := hd 0 _ rfl rfl
            have q := (unhide HX).below hJ
            have x0 := q.cell 0 _ rfl
            have x1 := q.cell 1 _ rfl
            have x2 := q.cell 2 _ rfl
            have x3 := q.cell 3 _ rfl
            have x4 := q.cell 4 _ rfl
            exact step_val (v := (.agg #[.int .i64 it, .int .i64 is])) (w' := wz) (by simp [go_sem, execOp, dd0, x0, x1, x2, x3, x4]) ⟨Below.refl _ _, rfl⟩) ?_
          refine .cons (fun ρ wz hρ hJ hb hd => by
            refine Eq.mpr (if_neg (by decide)) ?_
            have dd0 : ρ (.tmp 2) = (.pointer (some ⟨w.heap.size, 0, none⟩)) := hb (2, _) (List.mem_of_getElem? (i := 2) rfl)
            exact step_val (v := (.pointer (some ⟨w.heap.size, 4, none⟩))) (w' := wz) (by simp [go_sem, execOp, dd0, hρ.const, hS]) ⟨Below.refl _ _, rfl⟩) ?_
          refine .cons (fun ρ wz hρ hJ hb hd => by
            refine Eq.mpr (if_neg (by decide)) ?_
            have dd0 : ρ (.tmp 17) = (.pointer (some ⟨w.heap.size, 4, none⟩)) := hd 0 _ rfl rfl
            have q := (unhide HX).below hJ
            have x0 := q.cell 0 _ rfl
            have x1 := q.cell 1 _ rfl
            have x2 := q.cell 2 _ rfl
            have x3 := q.cell 3 _ rfl
            have x4 := q.cell 4 _ rfl
            exact step_val (v := (.string t)) (w' := wz) (by simp [go_sem, execOp, dd0, x0, x1, x2, x3, x4]) ⟨Below.refl _ _, rfl⟩) ?_
          refine .cons (fun ρ wz hρ hJ hb hd => by
            refine Eq.mpr (if_neg (by decide)) ?_
            have dd0 : ρ (.tmp 18) = (.string t) := hd 0 _ rfl rfl
            refine step_func 143 _ _ #[.string t] hρ rfl (enters_of Tryz.func143 (by kernel_rfl) rfl) (by simp [dd0]) ?_
            refine (unhide HC wz).mono ?_
            rintro r W' ⟨rfl, hb2⟩
            exact ⟨_, rfl, hb2, rfl⟩) ?_
          refine .cons (fun ρ wz hρ hJ hb hd => by
            refine Eq.mpr (if_neg (by decide)) ?_
            have dd0 : ρ (.tmp 16) = (.agg #[.int .i64 it, .int .i64 is]) := hd 0 _ rfl rfl
            have dd1 : ρ (.tmp 19) = (.int .i64 C) := hd 1 _ rfl rfl
            refine step_func 142 _ _ #[.agg #[.int .i64 it, .int .i64 is], .int .i64 C] hρ rfl (enters_of Tryz.func142 (by kernel_rfl) rfl) (by simp [dd0, dd1]) ?_
            refine (unhide HR wz).mono ?_
            rintro r W' ⟨rfl, hb2⟩
            exact ⟨_, rfl, hb2, rfl⟩) ?_
          refine .cons (fun ρ wz hρ hJ hb hd => by
            refine Eq.mpr (if_neg (by decide)) ?_
            have dd0 : ρ (.tmp 14) = (.bool true) := hd 0 _ rfl rfl
            have dd1 : ρ (.tmp 20) = (.bool false) := hd 1 _ rfl rfl
            exact step_val (v := (.bool false)) (w' := wz) (by simp [go_sem, execOp, dd0, dd1, hρ.const, hS]) ⟨Below.refl _ _, rfl⟩) ?_
          refine .cons (fun ρ wz hρ hJ hb hd => by
            refine Eq.mpr (if_neg (by decide)) ?_
            have dd0 : ρ (.tmp 21) = (.bool false) := hd 0 _ rfl rfl
            exact step_move (.tmp 21) rfl ⟨Below.refl _ _, dd0⟩) ?_
          refine .cons (fun ρ wz hρ hJ hb hd => Eq.mpr (if_pos (by decide)) rfl) ?_
          refine .cons (fun ρ wz hρ hJ hb hd => Eq.mpr (if_pos (by decide)) rfl) ?_
          refine .cons (fun ρ wz hρ hJ hb hd => by
            refine Eq.mpr (if_neg (by decide)) ?_
            have dd0 : ρ (.tmp 22) = (.bool false) := hd 0 _ rfl rfl
            have dd1 : ρ (.tmp 24) = undef := hd 1 _ rfl rfl
            exact step_val (v := (.bool false)) (w' := wz) (by simp [go_sem, execOp, dd0, dd1, hρ.const, hS]) ⟨Below.refl _ _, rfl⟩) ?_
          refine .cons (fun ρ wz hρ hJ hb hd => by
            refine Eq.mpr (if_neg (by decide)) ?_
            have dd0 : ρ (.tmp 25) = (.bool false) := hd 0 _ rfl rfl
            exact step_assign (.tmp 25) rfl ⟨Below.refl _ _, dd0⟩) (.nil _)
        case fin =>
          intro aQ WQ hsz2 hds hb hJ hv
          obtain rfl := frame_of (((0, (.agg #[.int .i64 it, .int .i64 is, .int .i64 rt, .int .i64 rs, .string t])) :: (1, (.int .i64 is)) :: (2, (.pointer (some ⟨w.heap.size, 0, none⟩))) :: (3, undef) :: []) ++ ((5, (.agg #[.int .i64 it, .int .i64 is, .int .i64 rt, .int .i64 rs, .string t])) :: (6, (.bool true)) :: (7, (.bool true)) :: (8, (.pointer (some ⟨w.heap.size, 0, none⟩))) :: (9, (.pointer (some ⟨w.heap.size, 1, none⟩))) :: (10, (.int .i64 is)) :: (11, (.int .i64 is)) :: (12, (.bool true)) :: (13, (.bool true)) :: (14, (.bool true)) :: (15, (.pointer (some ⟨w.heap.size, 0, none⟩))) :: (16, (.agg #[.int .i64 it, .int .i64 is])) :: (17, (.pointer (some ⟨w.heap.size, 4, none⟩))) :: (18, (.string t)) :: (19, (.int .i64 C)) :: (20, (.bool false)) :: (21, (.bool false)) :: (22, (.bool false)) :: (23, undef) :: (24, undef) :: (25, (.bool false)) :: (4, (.bool false)) :: [])) ((.agg #[.int .i64 it, .int .i64 is, .int .i64 rt, .int .i64 rs, .string t]) :: (.int .i64 is) :: (.pointer (some ⟨w.heap.size, 0, none⟩)) :: undef :: (.bool false) :: (.agg #[.int .i64 it, .int .i64 is, .int .i64 rt, .int .i64 rs, .string t]) :: (.bool true) :: (.bool true) :: (.pointer (some ⟨w.heap.size, 0, none⟩)) :: (.pointer (some ⟨w.heap.size, 1, none⟩)) :: (.int .i64 is) :: (.int .i64 is) :: (.bool true) :: (.bool true) :: (.bool true) :: (.pointer (some ⟨w.heap.size, 0, none⟩)) :: (.agg #[.int .i64 it, .int .i64 is]) :: (.pointer (some ⟨w.heap.size, 4, none⟩)) :: (.string t) :: (.int .i64 C) :: (.bool false) :: (.bool false) :: (.bool false) :: undef :: undef :: (.bool false) :: []) hsz2 hds (fun p hp => by
            rcases List.mem_append.1 hp with h | h
            · exact hb p h
            · simp only [List.mem_cons, List.not_mem_nil, or_false] at h
              rcases h with rfl | rfl | rfl | rfl | rfl | rfl | rfl | rfl | rfl | rfl | rfl | rfl | rfl | rfl | rfl | rfl | rfl | rfl | rfl | rfl | rfl | rfl
              · exact hv 0 (by decide)
              · exact hv 1 (by decide)
              · exact hv 2 (by decide)
              · exact hv 3 (by decide)
              · exact hv 4 (by decide)
              · exact hv 5 (by decide)
              · exact hv 6 (by decide)
              · exact hv 7 (by decide)
              · exact hv 8 (by decide)
              · exact hv 9 (by decide)
              · exact hv 10 (by decide)
              · exact hv 11 (by decide)
              · exact hv 12 (by decide)
              · exact hv 13 (by decide)
              · exact hv 14 (by decide)
              · exact hv 15 (by decide)
              · exact hv 16 (by decide)
              · exact hv 17 (by decide)
              · exact hv 18 (by decide)
              · exact hv 19 (by decide)
              · exact hv 20 (by decide)
              · exact hv 21 (by decide)) rfl
          clear hb hds hsz2 hv
          go_wp2
          go_ret
          exact ⟨rfl, bnext (unhide B0) hJ⟩
      · rw [hR] at HR
        simp only [Bool.true_and]
        clear hR
        go_enter Tryz.func137, Tryz.ntmps137
        go_wp2
        refine wp_region_any (by kernel_rfl) ?_
        change wpAny _ _ _ _ _ _ _ (World.drew _)
        refine region_invG 26 (fun j => if j = 21 then 4 else 5 + j) ((0, (.agg #[.int .i64 it, .int .i64 is, .int .i64 rt, .int .i64 rs, .string t])) :: (1, (.int .i64 is)) :: (2, (.pointer (some ⟨w.heap.size, 0, none⟩))) :: (3, undef) :: [])
          (fun W => Below X.heap.size X W)
          (valsOf [isV (.agg #[.int .i64 it, .int .i64 is, .int .i64 rt, .int .i64 rs, .string t]), isV (.bool true), isV (.bool true), isV (.pointer (some ⟨w.heap.size, 0, none⟩)), isV (.pointer (some ⟨w.heap.size, 1, none⟩)), isV (.int .i64 is), isV (.int .i64 is), isV (.bool true), isV (.bool true), isV (.bool true), isV (.pointer (some ⟨w.heap.size, 0, none⟩)), isV (.agg #[.int .i64 it, .int .i64 is]), isV (.pointer (some ⟨w.heap.size, 4, none⟩)), isV (.string t), isV (.int .i64 C), isV (.bool true), isV (.bool true), isV (.bool true), isV (.agg #[.int .i64 it, .int .i64 is, .int .i64 rt, .int .i64 rs, .string t]), isV (.bool F), isV (.bool F), isV (.bool F)])
          (fun w w' => Below w.heap.size w w') ?fit (fun w1 w2 h hG => h.trans (hG.mono h.size)) (valsOf_stable ?stable) (fun _ => true) [(2, true), (9, true), (17, true)] ?gs ?gv ?steps ?fin _ _ ?sz rfl ?base ?start
        case fit => kernel_rfl
        case sz => rfl
        case gs => kernel_rfl
        case gv => intro p hp w v hv; simp only [List.mem_cons, List.not_mem_nil, or_false] at hp; rcases hp with rfl | rfl | rfl <;> exact hv
        case base => intro p hp; repeat (first | (rcases List.mem_cons.1 hp with rfl | hp; · rfl) | cases hp)
        case stable => exact Stables.all (by repeat (first | exact .nil | refine .same ?_))
        case start => exact (Below.refl _ _).drew
        case steps =>
          refine .cons (fun ρ wz hρ hJ hb hd => by
            refine Eq.mpr (if_neg (by decide)) ?_
            have dd0 : ρ (.tmp 2) = (.pointer (some ⟨w.heap.size, 0, none⟩)) := hb (2, _) (List.mem_of_getElem? (i := 2) rfl)
            have q := (unhide HX).below hJ
            have x0 := q.cell 0 _ rfl
            have x1 := q.cell 1 _ rfl
            have x2 := q.cell 2 _ rfl
            have x3 := q.cell 3 _ rfl
            have x4 := q.cell 4 _ rfl
            exact step_val (v := (.agg #[.int .i64 it, .int .i64 is, .int .i64 rt, .int .i64 rs, .string t])) (w' := wz) (by simp [go_sem, execOp, dd0, x0, x1, x2, x3, x4]) ⟨Below.refl _ _, rfl⟩) ?_
          refine .cons (fun ρ wz hρ hJ hb hd => by
            refine Eq.mpr (if_neg (by decide)) ?_
            have dd0 : ρ (.tmp 5) = (.agg #[.int .i64 it, .int .i64 is, .int .i64 rt, .int .i64 rs, .string t]) := hd 0 _ rfl rfl
            refine step_func 141 _ _ #[.agg #[.int .i64 it, .int .i64 is, .int .i64 rt, .int .i64 rs, .string t]] hρ rfl (enters_of Tryz.func141 (by kernel_rfl) rfl) (by simp [dd0]) ?_
            refine (unhide HT wz).mono ?_
            rintro r W' ⟨rfl, hb2⟩
            exact ⟨_, rfl, hb2, rfl⟩) ?_
          refine .cons (fun ρ wz hρ hJ hb hd => by
            refine Eq.mpr (if_neg (by decide)) ?_
            have dd0 : ρ (.tmp 6) = (.bool true) := hd 0 _ rfl rfl
            exact step_move (.tmp 6) rfl ⟨Below.refl _ _, dd0⟩) ?_
          refine .cons (fun ρ wz hρ hJ hb hd => by
            refine Eq.mpr (if_neg (by decide)) ?_
            have dd0 : ρ (.tmp 2) = (.pointer (some ⟨w.heap.size, 0, none⟩)) := hb (2, _) (List.mem_of_getElem? (i := 2) rfl)
            exact step_val (v := (.pointer (some ⟨w.heap.size, 0, none⟩))) (w' := wz) (by simp [go_sem, execOp, dd0, hρ.const, hS]) ⟨Below.refl _ _, rfl⟩) ?_
          refine .cons (fun ρ wz hρ hJ hb hd => by
            refine Eq.mpr (if_neg (by decide)) ?_
            have dd0 : ρ (.tmp 8) = (.pointer (some ⟨w.heap.size, 0, none⟩)) := hd 0 _ rfl rfl
            exact step_val (v := (.pointer (some ⟨w.heap.size, 1, none⟩))) (w' := wz) (by simp [go_sem, execOp, dd0, hρ.const, hS]) ⟨Below.refl _ _, rfl⟩) ?_
          refine .cons (fun ρ wz hρ hJ hb hd => by
            refine Eq.mpr (if_neg (by decide)) ?_
            have dd0 : ρ (.tmp 9) = (.pointer (some ⟨w.heap.size, 1, none⟩)) := hd 0 _ rfl rfl
            have q := (unhide HX).below hJ
            have x0 := q.cell 0 _ rfl
            have x1 := q.cell 1 _ rfl
            have x2 := q.cell 2 _ rfl
            have x3 := q.cell 3 _ rfl
            have x4 := q.cell 4 _ rfl
            exact step_val (v := (.int .i64 is)) (w' := wz) (by simp [go_sem, execOp, dd0, x0, x1, x2, x3, x4]) ⟨Below.refl _ _, rfl⟩) ?_
          refine .cons (fun ρ wz hρ hJ hb hd => by
            refine Eq.mpr (if_neg (by decide)) ?_
            have dd0 : ρ (.tmp 1) = (.int .i64 is) := hb (1, _) (List.mem_of_getElem? (i := 1) rfl)
            exact step_move (.tmp 1) rfl ⟨Below.refl _ _, dd0⟩) ?_
          refine .cons (fun ρ wz hρ hJ hb hd => by
            refine Eq.mpr (if_neg (by decide)) ?_
            have dd0 : ρ (.tmp 10) = (.int .i64 is) := hd 0 _ rfl rfl
            have dd1 : ρ (.tmp 11) = (.int .i64 is) := hd 1 _ rfl rfl
            exact step_val (v := (.bool true)) (w' := wz) (by simp [go_sem, execOp, dd0, dd1, hρ.const, hS]) ⟨Below.refl _ _, rfl⟩) ?_
          refine .cons (fun ρ wz hρ hJ hb hd => by
            refine Eq.mpr (if_neg (by decide)) ?_
            have dd0 : ρ (.tmp 7) = (.bool true) := hd 0 _ rfl rfl
            have dd1 : ρ (.tmp 12) = (.bool true) := hd 1 _ rfl rfl
            exact step_val (v := (.bool true)) (w' := wz) (by simp [go_sem, execOp, dd0, dd1, hρ.const, hS]) ⟨Below.refl _ _, rfl⟩) ?_
          refine .cons (fun ρ wz hρ hJ hb hd => by
            refine Eq.mpr (if_neg (by decide)) ?_
            have dd0 : ρ (.tmp 13) = (.bool true) := hd 0 _ rfl rfl
            exact step_move (.tmp 13) rfl ⟨Below.refl _ _, dd0⟩) ?_
          refine .cons (fun ρ wz hρ hJ hb hd => by
            refine Eq.mpr (if_neg (by decide)) ?_
            have dd0 : ρ (.tmp 2) = (.pointer (some ⟨w.heap.size, 0, none⟩)) := hb (2, _) (List.mem_of_getElem? (i := 2) rfl)
            exact step_val (v := (.pointer (some ⟨w.heap.size, 0, none⟩))) (w' := wz) (by simp [go_sem, execOp, dd0, hρ.const, hS]) ⟨Below.refl _ _, rfl⟩) ?_
          refine .cons (fun ρ wz hρ hJ hb hd => by
            refine Eq.mpr (if_neg (by decide)) ?_
            have dd0 : ρ (.tmp 15) = (.pointer (some ⟨w.heap.size, 0, none⟩)) := hd 0 _ rfl rfl
            have q := (unhide HX).below hJ
            have x0 := q.cell 0 _ rfl
            have x1 := q.cell 1 _ rfl
            have x2 := q.cell 2 _ rfl
            have x3 := q.cell 3 _ rfl
            have x4 := q.cell 4 _ rfl
            exact step_val (v := (.agg #[.int .i64 it, .int .i64 is])) (w' := wz) (by simp [go_sem, execOp, dd0, x0, x1, x2, x3, x4]) ⟨Below.refl _ _, rfl⟩) ?_
          refine .cons (fun ρ wz hρ hJ hb hd => by
            refine Eq.mpr (if_neg (by decide)) ?_
            have dd0 : ρ (.tmp 2) = (.pointer (some ⟨w.heap.size, 0, none⟩)) := hb (2, _) (List.mem_of_getElem? (i := 2) rfl)
            exact step_val (v := (.pointer (some ⟨w.heap.size, 4, none⟩))) (w' := wz) (by simp [go_sem, execOp, dd0, hρ.const, hS]) ⟨Below.refl _ _, rfl⟩) ?_
          refine .cons (fun ρ wz hρ hJ hb hd => by
            refine Eq.mpr (if_neg (by decide)) ?_
            have dd0 : ρ (.tmp 17) = (.pointer (some ⟨w.heap.size, 4, none⟩)) := hd 0 _ rfl rfl
            have q := (unhide HX).below hJ
            have x0 := q.cell 0 _ rfl
            have x1 := q.cell 1 _ rfl
            have x2 := q.cell 2 _ rfl
            have x3 := q.cell 3 _ rfl
            have x4 := q.cell 4 _ rfl
            exact step_val (v := (.string t)) (w' := wz) (by simp [go_sem, execOp, dd0, x0, x1, x2, x3, x4]) ⟨Below.refl _ _, rfl⟩) ?_
          refine .cons (fun ρ wz hρ hJ hb hd => by
            refine Eq.mpr (if_neg (by decide)) ?_
            have dd0 : ρ (.tmp 18) = (.string t) := hd 0 _ rfl rfl
            refine step_func 143 _ _ #[.string t] hρ rfl (enters_of Tryz.func143 (by kernel_rfl) rfl) (by simp [dd0]) ?_
            refine (unhide HC wz).mono ?_
            rintro r W' ⟨rfl, hb2⟩
            exact ⟨_, rfl, hb2, rfl⟩) ?_
          refine .cons (fun ρ wz hρ hJ hb hd => by
            refine Eq.mpr (if_neg (by decide)) ?_
            have dd0 : ρ (.tmp 16) = (.agg #[.int .i64 it, .int .i64 is]) := hd 0 _ rfl rfl
            have dd1 : ρ (.tmp 19) = (.int .i64 C) := hd 1 _ rfl rfl
            refine step_func 142 _ _ #[.agg #[.int .i64 it, .int .i64 is], .int .i64 C] hρ rfl (enters_of Tryz.func142 (by kernel_rfl) rfl) (by simp [dd0, dd1]) ?_
            refine (unhide HR wz).mono ?_
            rintro r W' ⟨rfl, hb2⟩
            exact ⟨_, rfl, hb2, rfl⟩) ?_
          refine .cons (fun ρ wz hρ hJ hb hd => by
            refine Eq.mpr (if_neg (by decide)) ?_
            have dd0 : ρ (.tmp 14) = (.bool true) := hd 0 _ rfl rfl
            have dd1 : ρ (.tmp 20) = (.bool true) := hd 1 _ rfl rfl
            exact step_val (v := (.bool true)) (w' := wz) (by simp [go_sem, execOp, dd0, dd1, hρ.const, hS]) ⟨Below.refl _ _, rfl⟩) ?_
          refine .cons (fun ρ wz hρ hJ hb hd => by
            refine Eq.mpr (if_neg (by decide)) ?_
            have dd0 : ρ (.tmp 21) = (.bool true) := hd 0 _ rfl rfl
            exact step_move (.tmp 21) rfl ⟨Below.refl _ _, dd0⟩) ?_
          refine .cons (fun ρ wz hρ hJ hb hd => by
            refine Eq.mpr (if_neg (by decide)) ?_
            have dd0 : ρ (.tmp 2) = (.pointer (some ⟨w.heap.size, 0, none⟩)) := hb (2, _) (List.mem_of_getElem? (i := 2) rfl)
            have q := (unhide HX).below hJ
            have x0 := q.cell 0 _ rfl
            have x1 := q.cell 1 _ rfl
            have x2 := q.cell 2 _ rfl
            have x3 := q.cell 3 _ rfl
            have x4 := q.cell 4 _ rfl
            exact step_val (v := (.agg #[.int .i64 it, .int .i64 is, .int .i64 rt, .int .i64 rs, .string t])) (w' := wz) (by simp [go_sem, execOp, dd0, x0, x1, x2, x3, x4]) ⟨Below.refl _ _, rfl⟩) ?_
          refine .cons (fun ρ wz hρ hJ hb hd => by
            refine Eq.mpr (if_neg (by decide)) ?_
            have dd0 : ρ (.tmp 23) = (.agg #[.int .i64 it, .int .i64 is, .int .i64 rt, .int .i64 rs, .string t]) := hd 0 _ rfl rfl
            refine step_func 144 _ _ #[.agg #[.int .i64 it, .int .i64 is, .int .i64 rt, .int .i64 rs, .string t]] hρ rfl (enters_of Tryz.func144 (by kernel_rfl) rfl) (by simp [dd0]) ?_
            refine (unhide HF wz).mono ?_
            rintro r W' ⟨rfl, hb2⟩
            exact ⟨_, rfl, hb2, rfl⟩) ?_
          refine .cons (fun ρ wz hρ hJ hb hd => by
            refine Eq.mpr (if_neg (by decide)) ?_
            have dd0 : ρ (.tmp 22) = (.bool true) := hd 0 _ rfl rfl
            have dd1 : ρ (.tmp 24) = (.bool F) := hd 1 _ rfl rfl
            exact step_val (v := (.bool F)) (w' := wz) (by simp [go_sem, execOp, dd0, dd1, hρ.const, hS]) ⟨Below.refl _ _, rfl⟩) ?_
          refine .cons (fun ρ wz hρ hJ hb hd => by
            refine Eq.mpr (if_neg (by decide)) ?_
            have dd0 : ρ (.tmp 25) = (.bool F) := hd 0 _ rfl rfl
            exact step_assign (.tmp 25) rfl ⟨Below.refl _ _, dd0⟩) (.nil _)
        case fin =>
          intro aQ WQ hsz2 hds hb hJ hv
          obtain rfl := frame_of (((0, (.agg #[.int .i64 it, .int .i64 is, .int .i64 rt, .int .i64 rs, .string t])) :: (1, (.int .i64 is)) :: (2, (.pointer (some ⟨w.heap.size, 0, none⟩))) :: (3, undef) :: []) ++ ((5, (.agg #[.int .i64 it, .int .i64 is, .int .i64 rt, .int .i64 rs, .string t])) :: (6, (.bool true)) :: (7, (.bool true)) :: (8, (.pointer (some ⟨w.heap.size, 0, none⟩))) :: (9, (.pointer (some ⟨w.heap.size, 1, none⟩))) :: (10, (.int .i64 is)) :: (11, (.int .i64 is)) :: (12, (.bool true)) :: (13, (.bool true)) :: (14, (.bool true)) :: (15, (.pointer (some ⟨w.heap.size, 0, none⟩))) :: (16, (.agg #[.int .i64 it, .int .i64 is])) :: (17, (.pointer (some ⟨w.heap.size, 4, none⟩))) :: (18, (.string t)) :: (19, (.int .i64 C)) :: (20, (.bool true)) :: (21, (.bool true)) :: (22, (.bool true)) :: (23, (.agg #[.int .i64 it, .int .i64 is, .int .i64 rt, .int .i64 rs, .string t])) :: (24, (.bool F)) :: (25, (.bool F)) :: (4, (.bool F)) :: [])) ((.agg #[.int .i64 it, .int .i64 is, .int .i64 rt, .int .i64 rs, .string t]) :: (.int .i64 is) :: (.pointer (some ⟨w.heap.size, 0, none⟩)) :: undef :: (.bool F) :: (.agg #[.int .i64 it, .int .i64 is, .int .i64 rt, .int .i64 rs, .string t]) :: (.bool true) :: (.bool true) :: (.pointer (some ⟨w.heap.size, 0, none⟩)) :: (.pointer (some ⟨w.heap.size, 1, none⟩)) :: (.int .i64 is) :: (.int .i64 is) :: (.bool true) :: (.bool true) :: (.bool true) :: (.pointer (some ⟨w.heap.size, 0, none⟩)) :: (.agg #[.int .i64 it, .int .i64 is]) :: (.pointer (some ⟨w.heap.size, 4, none⟩)) :: (.string t) :: (.int .i64 C) :: (.bool true) :: (.bool true) :: (.bool true) :: (.agg #[.int .i64 it, .int .i64 is, .int .i64 rt, .int .i64 rs, .string t]) :: (.bool F) :: (.bool F) :: []) hsz2 hds (fun p hp => by
            rcases List.mem_append.1 hp with h | h
            · exact hb p h
            · simp only [List.mem_cons, List.not_mem_nil, or_false] at h
              rcases h with rfl | rfl | rfl | rfl | rfl | rfl | rfl | rfl | rfl | rfl | rfl | rfl | rfl | rfl | rfl | rfl | rfl | rfl | rfl | rfl | rfl | rfl
              · exact hv 0 (by decide)
              · exact hv 1 (by decide)
              · exact hv 2 (by decide)
              · exact hv 3 (by decide)
              · exact hv 4 (by decide)
              · exact hv 5 (by decide)
              · exact hv 6 (by decide)
              · exact hv 7 (by decide)
              · exact hv 8 (by decide)
              · exact hv 9 (by decide)
              · exact hv 10 (by decide)
              · exact hv 11 (by decide)
              · exact hv 12 (by decide)
              · exact hv 13 (by decide)
              · exact hv 14 (by decide)
              · exact hv 15 (by decide)
              · exact hv 16 (by decide)
              · exact hv 17 (by decide)
              · exact hv 18 (by decide)
              · exact hv 19 (by decide)
              · exact hv 20 (by decide)
              · exact hv 21 (by decide)) rfl
          clear hb hds hsz2 hv
          go_wp2
          go_ret
          exact ⟨rfl, bnext (unhide B0) hJ⟩
    · rw [decide_eq_false hS]
      simp only [Bool.false_and]
      go_enter Tryz.func137, Tryz.ntmps137
      go_wp2
      refine wp_region_any (by kernel_rfl) ?_
      change wpAny _ _ _ _ _ _ _ (World.drew _)
      refine region_invG 26 (fun j => if j = 21 then 4 else 5 + j) ((0, (.agg #[.int .i64 it, .int .i64 is, .int .i64 rt, .int .i64 rs, .string t])) :: (1, (.int .i64 x)) :: (2, (.pointer (some ⟨w.heap.size, 0, none⟩))) :: (3, undef) :: [])
        (fun W => Below X.heap.size X W)
        (valsOf [isV (.agg #[.int .i64 it, .int .i64 is, .int .i64 rt, .int .i64 rs, .string t]), isV (.bool true), isV (.bool true), isV (.pointer (some ⟨w.heap.size, 0, none⟩)), isV (.pointer (some ⟨w.heap.size, 1, none⟩)), isV (.int .i64 is), isV (.int .i64 x), isV (.bool false), isV (.bool false), isV (.bool false), isV undef, isV undef, isV undef, isV undef, isV undef, isV undef, isV (.bool false), isV (.bool false), isV undef, isV undef, isV (.bool false), isV (.bool false)])
        (fun w w' => Below w.heap.size w w') ?fit (fun w1 w2 h hG => h.trans (hG.mono h.size)) (valsOf_stable ?stable) (fun p => match p with | (2, true) => true | (9, true) => false | (17, true) => false | _ => true) [(2, true), (9, true), (17, true)] ?gs ?gv ?steps ?fin _ _ ?sz rfl ?base ?start
      case fit => kernel_rfl
      case sz => rfl
      case gs => kernel_rfl
      case gv => intro p hp w v hv; simp only [List.mem_cons, List.not_mem_nil, or_false] at hp; rcases hp with rfl | rfl | rfl <;> exact hv
      case base => intro p hp; repeat (first | (rcases List.mem_cons.1 hp with rfl | hp; · rfl) | cases hp)
      case stable => exact Stables.all (by repeat (first | exact .nil | refine .same ?_))
      case start => exact (Below.refl _ _).drew
      case steps =>
        refine .cons (fun ρ wz hρ hJ hb hd => by
          refine Eq.mpr (if_neg (by decide)) ?_
          have dd0 : ρ (.tmp 2) = (.pointer (some ⟨w.heap.size, 0, none⟩)) := hb (2, _) (List.mem_of_getElem? (i := 2) rfl)
          have q := (unhide HX).below hJ
          have x0 := q.cell 0 _ rfl
          have x1 := q.cell 1 _ rfl
          have x2 := q.cell 2 _ rfl
          have x3 := q.cell 3 _ rfl
          have x4 := q.cell 4 _ rfl
          exact step_val (v := (.agg #[.int .i64 it, .int .i64 is, .int .i64 rt, .int .i64 rs, .string t])) (w' := wz) (by simp [go_sem, execOp, dd0, x0, x1, x2, x3, x4]) ⟨Below.refl _ _, rfl⟩) ?_
        refine .cons (fun ρ wz hρ hJ hb hd => by
          refine Eq.mpr (if_neg (by decide)) ?_
          have dd0 : ρ (.tmp 5) = (.agg #[.int .i64 it, .int .i64 is, .int .i64 rt, .int .i64 rs, .string t]) := hd 0 _ rfl rfl
          refine step_func 141 _ _ #[.agg #[.int .i64 it, .int .i64 is, .int .i64 rt, .int .i64 rs, .string t]] hρ rfl (enters_of Tryz.func141 (by kernel_rfl) rfl) (by simp [dd0]) ?_
          refine (unhide HT wz).mono ?_
          rintro r W' ⟨rfl, hb2⟩
          exact ⟨_, rfl, hb2, rfl⟩) ?_
        refine .cons (fun ρ wz hρ hJ hb hd => by
          refine Eq.mpr (if_neg (by decide)) ?_
          have dd0 : ρ (.tmp 6) = (.bool true) := hd 0 _ rfl rfl
          exact step_move (.tmp 6) rfl ⟨Below.refl _ _, dd0⟩) ?_
        refine .cons (fun ρ wz hρ hJ hb hd => by
          refine Eq.mpr (if_neg (by decide)) ?_
          have dd0 : ρ (.tmp 2) = (.pointer (some ⟨w.heap.size, 0, none⟩)) := hb (2, _) (List.mem_of_getElem? (i := 2) rfl)
          exact step_val (v := (.pointer (some ⟨w.heap.size, 0, none⟩))) (w' := wz) (by simp [go_sem, execOp, dd0, hρ.const, hS]) ⟨Below.refl _ _, rfl⟩) ?_
        refine .cons (fun ρ wz hρ hJ hb hd => by
          refine Eq.mpr (if_neg (by decide)) ?_
          have dd0 : ρ (.tmp 8) = (.pointer (some ⟨w.heap.size, 0, none⟩)) := hd 0 _ rfl rfl
          exact step_val (v := (.pointer (some ⟨w.heap.size, 1, none⟩))) (w' := wz) (by simp [go_sem, execOp, dd0, hρ.const, hS]) ⟨Below.refl _ _, rfl⟩) ?_
        refine .cons (fun ρ wz hρ hJ hb hd => by
          refine Eq.mpr (if_neg (by decide)) ?_
          have dd0 : ρ (.tmp 9) = (.pointer (some ⟨w.heap.size, 1, none⟩)) := hd 0 _ rfl rfl
          have q := (unhide HX).below hJ
          have x0 := q.cell 0 _ rfl
          have x1 := q.cell 1 _ rfl
          have x2 := q.cell 2 _ rfl
          have x3 := q.cell 3 _ rfl
          have x4 := q.cell 4 _ rfl
          exact step_val (v := (.int .i64 is)) (w' := wz) (by simp [go_sem, execOp, dd0, x0, x1, x2, x3, x4]) ⟨Below.refl _ _, rfl⟩) ?_
        refine .cons (fun ρ wz hρ hJ hb hd => by
          refine Eq.mpr (if_neg (by decide)) ?_
          have dd0 : ρ (.tmp 1) = (.int .i64 x) := hb (1, _) (List.mem_of_getElem? (i := 1) rfl)
          exact step_move (.tmp 1) rfl ⟨Below.refl _ _, dd0⟩) ?_
        refine .cons (fun ρ wz hρ hJ hb hd => by
          refine Eq.mpr (if_neg (by decide)) ?_
          have dd0 : ρ (.tmp 10) = (.int .i64 is) := hd 0 _ rfl rfl
          have dd1 : ρ (.tmp 11) = (.int .i64 x) := hd 1 _ rfl rfl
          exact step_val (v := (.bool false)) (w' := wz) (by simp [go_sem, execOp, dd0, dd1, hρ.const, hS]) ⟨Below.refl _ _, rfl⟩) ?_
        refine .cons (fun ρ wz hρ hJ hb hd => by
          refine Eq.mpr (if_neg (by decide)) ?_
          have dd0 : ρ (.tmp 7) = (.bool true) := hd 0 _ rfl rfl
          have dd1 : ρ (.tmp 12) = (.bool false) := hd 1 _ rfl rfl
          exact step_val (v := (.bool false)) (w' := wz) (by simp [go_sem, execOp, dd0, dd1, hρ.const, hS]) ⟨Below.refl _ _, rfl⟩) ?_
        refine .cons (fun ρ wz hρ hJ hb hd => by
          refine Eq.mpr (if_neg (by decide)) ?_
          have dd0 : ρ (.tmp 13) = (.bool false) := hd 0 _ rfl rfl
          exact step_move (.tmp 13) rfl ⟨Below.refl _ _, dd0⟩) ?_
        refine .cons (fun ρ wz hρ hJ hb hd => Eq.mpr (if_pos (by decide)) rfl) ?_
        refine .cons (fun ρ wz hρ hJ hb hd => Eq.mpr (if_pos (by decide)) rfl) ?_
        refine .cons (fun ρ wz hρ hJ hb hd => Eq.mpr (if_pos (by decide)) rfl) ?_
        refine .cons (fun ρ wz hρ hJ hb hd => Eq.mpr (if_pos (by decide)) rfl) ?_
        refine .cons (fun ρ wz hρ hJ hb hd => Eq.mpr (if_pos (by decide)) rfl) ?_
        refine .cons (fun ρ wz hρ hJ hb hd => Eq.mpr (if_pos (by decide)) rfl) ?_
        refine .cons (fun ρ wz hρ hJ hb hd => by
          refine Eq.mpr (if_neg (by decide)) ?_
          have dd0 : ρ (.tmp 14) = (.bool false) := hd 0 _ rfl rfl
          have dd1 : ρ (.tmp 20) = undef := hd 1 _ rfl rfl
          exact step_val (v := (.bool false)) (w' := wz) (by simp [go_sem, execOp, dd0, dd1, hρ.const, hS]) ⟨Below.refl _ _, rfl⟩) ?_
        refine .cons (fun ρ wz hρ hJ hb hd => by
          refine Eq.mpr (if_neg (by decide)) ?_
          have dd0 : ρ (.tmp 21) = (.bool false) := hd 0 _ rfl rfl
          exact step_move (.tmp 21) rfl ⟨Below.refl _ _, dd0⟩) ?_
        refine .cons (fun ρ wz hρ hJ hb hd => Eq.mpr (if_pos (by decide)) rfl) ?_
        refine .cons (fun ρ wz hρ hJ hb hd => Eq.mpr (if_pos (by decide)) rfl) ?_
        refine .cons (fun ρ wz hρ hJ hb hd => by
          refine Eq.mpr (if_neg (by decide)) ?_
          have dd0 : ρ (.tmp 22) = (.bool false) := hd 0 _ rfl rfl
          have dd1 : ρ (.tmp 24) = undef := hd 1 _ rfl rfl
          exact step_val (v := (.bool false)) (w' := wz) (by simp [go_sem, execOp, dd0, dd1, hρ.const, hS]) ⟨Below.refl _ _, rfl⟩) ?_
        refine .cons (fun ρ wz hρ hJ hb hd => by
          refine Eq.mpr (if_neg (by decide)) ?_
          have dd0 : ρ (.tmp 25) = (.bool false) := hd 0 _ rfl rfl
          exact step_assign (.tmp 25) rfl ⟨Below.refl _ _, dd0⟩) (.nil _)
      case fin =>
        intro aQ WQ hsz2 hds hb hJ hv
        obtain rfl := frame_of (((0, (.agg #[.int .i64 it, .int .i64 is, .int .i64 rt, .int .i64 rs, .string t])) :: (1, (.int .i64 x)) :: (2, (.pointer (some ⟨w.heap.size, 0, none⟩))) :: (3, undef) :: []) ++ ((5, (.agg #[.int .i64 it, .int .i64 is, .int .i64 rt, .int .i64 rs, .string t])) :: (6, (.bool true)) :: (7, (.bool true)) :: (8, (.pointer (some ⟨w.heap.size, 0, none⟩))) :: (9, (.pointer (some ⟨w.heap.size, 1, none⟩))) :: (10, (.int .i64 is)) :: (11, (.int .i64 x)) :: (12, (.bool false)) :: (13, (.bool false)) :: (14, (.bool false)) :: (15, undef) :: (16, undef) :: (17, undef) :: (18, undef) :: (19, undef) :: (20, undef) :: (21, (.bool false)) :: (22, (.bool false)) :: (23, undef) :: (24, undef) :: (25, (.bool false)) :: (4, (.bool false)) :: [])) ((.agg #[.int .i64 it, .int .i64 is, .int .i64 rt, .int .i64 rs, .string t]) :: (.int .i64 x) :: (.pointer (some ⟨w.heap.size, 0, none⟩)) :: undef :: (.bool false) :: (.agg #[.int .i64 it, .int .i64 is, .int .i64 rt, .int .i64 rs, .string t]) :: (.bool true) :: (.bool true) :: (.pointer (some ⟨w.heap.size, 0, none⟩)) :: (.pointer (some ⟨w.heap.size, 1, none⟩)) :: (.int .i64 is) :: (.int .i64 x) :: (.bool false) :: (.bool false) :: (.bool false) :: undef :: undef :: undef :: undef :: undef :: undef :: (.bool false) :: (.bool false) :: undef :: undef :: (.bool false) :: []) hsz2 hds (fun p hp => by
          rcases List.mem_append.1 hp with h | h
          · exact hb p h
          · simp only [List.mem_cons, List.not_mem_nil, or_false] at h
            rcases h with rfl | rfl | rfl | rfl | rfl | rfl | rfl | rfl | rfl | rfl | rfl | rfl | rfl | rfl | rfl | rfl | rfl | rfl | rfl | rfl | rfl | rfl
            · exact hv 0 (by decide)
            · exact hv 1 (by decide)
            · exact hv 2 (by decide)
            · exact hv 3 (by decide)
            · exact hv 4 (by decide)
            · exact hv 5 (by decide)
            · exact hv 6 (by decide)
            · exact hv 7 (by decide)
            · exact hv 8 (by decide)
            · exact hv 9 (by decide)
            · exact hv 10 (by decide)
            · exact hv 11 (by decide)
            · exact hv 12 (by decide)
            · exact hv 13 (by decide)
            · exact hv 14 (by decide)
            · exact hv 15 (by decide)
            · exact hv 16 (by decide)
            · exact hv 17 (by decide)
            · exact hv 18 (by decide)
            · exact hv 19 (by decide)
            · exact hv 20 (by decide)
            · exact hv 21 (by decide)) rfl
        clear hb hds hsz2 hv
        go_wp2
        go_ret
        exact ⟨rfl, bnext (unhide B0) hJ⟩

set_option maxRecDepth 100000 in
set_option maxHeartbeats 1000000 in
theorem follows_in (ds dq : Int) (v : Value) (deps : List (Int × Int)) (w : World) (h : RI w v deps) (hl : deps.length ≤ 140737488355328) :
    Calls Tryz.prog 63 #[.agg #[.int .i64 ds, .int .i64 dq], v] w fun e W => e = .returned (.bool (folO ds dq deps)) ∧ Below w.heap.size w W := by
  obtain ⟨X, hX⟩ : ∃ X, w.alloc (.cells #[.int .i64 ds, .int .i64 dq] 28) = X := ⟨_, rfl⟩
  have HX : Hid (Bx X w.heap.size 28 #[.int .i64 ds, .int .i64 dq]) := by rw [← hX]; exact Bx.new w _ _
  have B0 : Hid (Below w.heap.size w X) := by rw [← hX]; exact ballc (Below.refl _ _) _
  have hv := h.below (unhide B0)
  have HT := hide (fun W => oSite_in ds W)
  have HC := hide (fun (W : World) (hb : Below X.heap.size X W) => Check_in v deps W (hv.below hb) hl)
  have HG := hide (fun (W : World) (hb : Below X.heap.size X W) => Get_in v deps ds W (hv.below hb) hl)
  obtain ⟨a, c, rfl⟩ := h.form
  unfold folO
  clear h hv hl
  generalize deps.length = n at *
  generalize chk deps = E at *
  generalize getV deps ds = Y at *
  cases hT : isT ds
  · rw [hT] at HT
    simp only [Bool.false_and]
    clear hT
    have kL : True := trivial
    have kM : True := trivial
    have kK : True := trivial
    have kW : True := trivial
    have kG : True := trivial
    go_enter Tryz.func63, Tryz.ntmps63
    go_wp2
    refine wp_region_any (by kernel_rfl) ?_
    change wpAny _ _ _ _ _ _ _ (World.drew _)
    refine region_invG 33 (fun j => if j = 28 then 4 else 5 + j) ((0, (.agg #[.int .i64 ds, .int .i64 dq])) :: (1, (.slice a n c)) :: (2, (.pointer (some ⟨w.heap.size, 0, none⟩))) :: (3, undef) :: [])
      (fun W => Below X.heap.size X W)
      (valsOf [isV (.pointer (some ⟨w.heap.size, 0, none⟩)), isV (.int .i64 ds), isV (.bool false), isV (.bool false), isV undef, isV undef, isV undef, isV (.bool false), isV (.bool false), isV undef, isV undef, isV undef, isV (.bool false), isV (.bool false), isV undef, isV undef, isV undef, isV (.bool false), isV (.bool false), isV undef, isV undef, isV undef, isV undef, isV undef, isV undef, isV undef, isV undef, isV (.bool false), isV (.bool false)])
      (fun w w' => Below w.heap.size w w') ?fit (fun w1 w2 h hG => h.trans (hG.mono h.size)) (valsOf_stable ?stable) (fun p => match p with | (3, true) => false | (8, true) => false | (13, true) => false | (18, true) => false | _ => true) [(3, true), (8, true), (13, true), (18, true)] ?gs ?gv ?steps ?fin _ _ ?sz rfl ?base ?start
    case fit => kernel_rfl
    case sz => rfl
    case gs => kernel_rfl
    case gv => intro p hp w v hv; simp only [List.mem_cons, List.not_mem_nil, or_false] at hp; rcases hp with rfl | rfl | rfl | rfl <;> exact hv
    case base => intro p hp; repeat (first | (rcases List.mem_cons.1 hp with rfl | hp; · rfl) | cases hp)
    case stable => exact Stables.all (by repeat (first | exact .nil | refine .same ?_))
    case start => exact (Below.refl _ _).drew
    case steps =>
      refine .cons (fun ρ wz hρ hJ hb hd => by
        refine Eq.mpr (if_neg (by decide)) ?_
        have dd0 : ρ (.tmp 2) = (.pointer (some ⟨w.heap.size, 0, none⟩)) := hb (2, _) (List.mem_of_getElem? (i := 2) rfl)
        exact step_val (v := (.pointer (some ⟨w.heap.size, 0, none⟩))) (w' := wz) (by simp [go_sem, execOp, dd0, hρ.const, kL, kM, kK, kW, kG]) ⟨Below.refl _ _, rfl⟩) ?_
      refine .cons (fun ρ wz hρ hJ hb hd => by
        refine Eq.mpr (if_neg (by decide)) ?_
        have dd0 : ρ (.tmp 5) = (.pointer (some ⟨w.heap.size, 0, none⟩)) := hd 0 _ rfl rfl
        have q := (unhide HX).below hJ
        have x0 := q.cell 0 _ rfl
        have x1 := q.cell 1 _ rfl
        exact step_val (v := (.int .i64 ds)) (w' := wz) (by simp [go_sem, execOp, dd0, x0, x1]) ⟨Below.refl _ _, rfl⟩) ?_
      refine .cons (fun ρ wz hρ hJ hb hd => by
        refine Eq.mpr (if_neg (by decide)) ?_
        have dd0 : ρ (.tmp 6) = (.int .i64 ds) := hd 0 _ rfl rfl
        refine step_func 83 _ _ #[.int .i64 ds] hρ rfl (enters_of Tryz.func83 (by kernel_rfl) rfl) (by simp [dd0]) ?_
        refine (unhide HT wz).mono ?_
        rintro r W' ⟨rfl, rfl⟩
        exact ⟨_, rfl, Below.refl _ _, rfl⟩) ?_
      refine .cons (fun ρ wz hρ hJ hb hd => by
        refine Eq.mpr (if_neg (by decide)) ?_
        have dd0 : ρ (.tmp 7) = (.bool false) := hd 0 _ rfl rfl
        exact step_move (.tmp 7) rfl ⟨Below.refl _ _, dd0⟩) ?_
      refine .cons (fun ρ wz hρ hJ hb hd => Eq.mpr (if_pos (by decide)) rfl) ?_
      refine .cons (fun ρ wz hρ hJ hb hd => Eq.mpr (if_pos (by decide)) rfl) ?_
      refine .cons (fun ρ wz hρ hJ hb hd => Eq.mpr (if_pos (by decide)) rfl) ?_
      refine .cons (fun ρ wz hρ hJ hb hd => by
        refine Eq.mpr (if_neg (by decide)) ?_
        have dd0 : ρ (.tmp 8) = (.bool false) := hd 0 _ rfl rfl
        have dd1 : ρ (.tmp 11) = undef := hd 1 _ rfl rfl
        exact step_val (v := (.bool false)) (w' := wz) (by simp [go_sem, execOp, dd0, dd1, hρ.const, kL, kM, kK, kW, kG]) ⟨Below.refl _ _, rfl⟩) ?_
      refine .cons (fun ρ wz hρ hJ hb hd => by
        refine Eq.mpr (if_neg (by decide)) ?_
        have dd0 : ρ (.tmp 12) = (.bool false) := hd 0 _ rfl rfl
        exact step_move (.tmp 12) rfl ⟨Below.refl _ _, dd0⟩) ?_
      refine .cons (fun ρ wz hρ hJ hb hd => Eq.mpr (if_pos (by decide)) rfl) ?_
      refine .cons (fun ρ wz hρ hJ hb hd => Eq.mpr (if_pos (by decide)) rfl) ?_
      refine .cons (fun ρ wz hρ hJ hb hd => Eq.mpr (if_pos (by decide)) rfl) ?_
      refine .cons (fun ρ wz hρ hJ hb hd => by
        refine Eq.mpr (if_neg (by decide)) ?_
        have dd0 : ρ (.tmp 13) = (.bool false) := hd 0 _ rfl rfl
        have dd1 : ρ (.tmp 16) = undef := hd 1 _ rfl rfl
        exact step_val (v := (.bool false)) (w' := wz) (by simp [go_sem, execOp, dd0, dd1, hρ.const, kL, kM, kK, kW, kG]) ⟨Below.refl _ _, rfl⟩) ?_
      refine .cons (fun ρ wz hρ hJ hb hd => by
        refine Eq.mpr (if_neg (by decide)) ?_
        have dd0 : ρ (.tmp 17) = (.bool false) := hd 0 _ rfl rfl
        exact step_move (.tmp 17) rfl ⟨Below.refl _ _, dd0⟩) ?_
      refine .cons (fun ρ wz hρ hJ hb hd => Eq.mpr (if_pos (by decide)) rfl) ?_
      refine .cons (fun ρ wz hρ hJ hb hd => Eq.mpr (if_pos (by decide)) rfl) ?_
      refine .cons (fun ρ wz hρ hJ hb hd => Eq.mpr (if_pos (by decide)) rfl) ?_
      refine .cons (fun ρ wz hρ hJ hb hd => by
        refine Eq.mpr (if_neg (by decide)) ?_
        have dd0 : ρ (.tmp 18) = (.bool false) := hd 0 _ rfl rfl
        have dd1 : ρ (.tmp 21) = undef := hd 1 _ rfl rfl
        exact step_val (v := (.bool false)) (w' := wz) (by simp [go_sem, execOp, dd0, dd1, hρ.const, kL, kM, kK, kW, kG]) ⟨Below.refl _ _, rfl⟩) ?_
      refine .cons (fun ρ wz hρ hJ hb hd => by
        refine Eq.mpr (if_neg (by decide)) ?_
        have dd0 : ρ (.tmp 22) = (.bool false) := hd 0 _ rfl rfl
        exact step_move (.tmp 22) rfl ⟨Below.refl _ _, dd0⟩) ?_
      refine .cons (fun ρ wz hρ hJ hb hd => Eq.mpr (if_pos (by decide)) rfl) ?_
      refine .cons (fun ρ wz hρ hJ hb hd => Eq.mpr (if_pos (by decide)) rfl) ?_
      refine .cons (fun ρ wz hρ hJ hb hd => Eq.mpr (if_pos (by decide)) rfl) ?_
      refine .cons (fun ρ wz hρ hJ hb hd => Eq.mpr (if_pos (by decide)) rfl) ?_
      refine .cons (fun ρ wz hρ hJ hb hd => Eq.mpr (if_pos (by decide)) rfl) ?_
      refine .cons (fun ρ wz hρ hJ hb hd => Eq.mpr (if_pos (by decide)) rfl) ?_
      refine .cons (fun ρ wz hρ hJ hb hd => Eq.mpr (if_pos (by decide)) rfl) ?_
      refine .cons (fun ρ wz hρ hJ hb hd => Eq.mpr (if_pos (by decide)) rfl) ?_
      refine .cons (fun ρ wz hρ hJ hb hd => by
        refine Eq.mpr (if_neg (by decide)) ?_
        have dd0 : ρ (.tmp 23) = (.bool false) := hd 0 _ rfl rfl
        have dd1 : ρ (.tmp 31) = undef := hd 1 _ rfl rfl
        exact step_val (v := (.bool false)) (w' := wz) (by simp [go_sem, execOp, dd0, dd1, hρ.const, kL, kM, kK, kW, kG]) ⟨Below.refl _ _, rfl⟩) ?_
      refine .cons (fun ρ wz hρ hJ hb hd => by
        refine Eq.mpr (if_neg (by decide)) ?_
        have dd0 : ρ (.tmp 32) = (.bool false) := hd 0 _ rfl rfl
        exact step_assign (.tmp 32) rfl ⟨Below.refl _ _, dd0⟩) (.nil _)
    case fin =>
      intro aQ WQ hsz2 hds hb hJ hv
      obtain rfl := frame_of (((0, (.agg #[.int .i64 ds, .int .i64 dq])) :: (1, (.slice a n c)) :: (2, (.pointer (some ⟨w.heap.size, 0, none⟩))) :: (3, undef) :: []) ++ ((5, (.pointer (some ⟨w.heap.size, 0, none⟩))) :: (6, (.int .i64 ds)) :: (7, (.bool false)) :: (8, (.bool false)) :: (9, undef) :: (10, undef) :: (11, undef) :: (12, (.bool false)) :: (13, (.bool false)) :: (14, undef) :: (15, undef) :: (16, undef) :: (17, (.bool false)) :: (18, (.bool false)) :: (19, undef) :: (20, undef) :: (21, undef) :: (22, (.bool false)) :: (23, (.bool false)) :: (24, undef) :: (25, undef) :: (26, undef) :: (27, undef) :: (28, undef) :: (29, undef) :: (30, undef) :: (31, undef) :: (32, (.bool false)) :: (4, (.bool false)) :: [])) ((.agg #[.int .i64 ds, .int .i64 dq]) :: (.slice a n c) :: (.pointer (some ⟨w.heap.size, 0, none⟩)) :: undef :: (.bool false) :: (.pointer (some ⟨w.heap.size, 0, none⟩)) :: (.int .i64 ds) :: (.bool false) :: (.bool false) :: undef :: undef :: undef :: (.bool false) :: (.bool false) :: undef :: undef :: undef :: (.bool false) :: (.bool false) :: undef :: undef :: undef :: (.bool false) :: (.bool false) :: undef :: undef :: undef :: undef :: undef :: undef :: undef :: undef :: (.bool false) :: []) hsz2 hds (fun p hp => by
        rcases List.mem_append.1 hp with h | h
        · exact hb p h
        · simp only [List.mem_cons, List.not_mem_nil, or_false] at h
          rcases h with rfl | rfl | rfl | rfl | rfl | rfl | rfl | rfl | rfl | rfl | rfl | rfl | rfl | rfl | rfl | rfl | rfl | rfl | rfl | rfl | rfl | rfl | rfl | rfl | rfl | rfl | rfl | rfl | rfl
          · exact hv 0 (by decide)
          · exact hv 1 (by decide)
          · exact hv 2 (by decide)
          · exact hv 3 (by decide)
          · exact hv 4 (by decide)
          · exact hv 5 (by decide)
          · exact hv 6 (by decide)
          · exact hv 7 (by decide)
          · exact hv 8 (by decide)
          · exact hv 9 (by decide)
          · exact hv 10 (by decide)
          · exact hv 11 (by decide)
          · exact hv 12 (by decide)
          · exact hv 13 (by decide)
          · exact hv 14 (by decide)
          · exact hv 15 (by decide)
          · exact hv 16 (by decide)
          · exact hv 17 (by decide)
          · exact hv 18 (by decide)
          · exact hv 19 (by decide)
          · exact hv 20 (by decide)
          · exact hv 21 (by decide)
          · exact hv 22 (by decide)
          · exact hv 23 (by decide)
          · exact hv 24 (by decide)
          · exact hv 25 (by decide)
          · exact hv 26 (by decide)
          · exact hv 27 (by decide)
          · exact hv 28 (by decide)) rfl
      clear hb hds hsz2 hv
      go_wp2
      go_ret
      exact ⟨rfl, bnext (unhide B0) hJ⟩
  · rw [hT] at HT
    simp only [Bool.true_and]
    clear hT
    by_cases kL : 1 ≤ dq
    · rw [decide_eq_true kL]
      simp only [Bool.true_and]
      by_cases kM : dq ≤ 2147483647
      · rw [decide_eq_true kM]
        simp only [Bool.true_and]
        by_cases kK : E = 0
        · rw [decide_eq_true kK]
          simp only [Bool.true_and]
          have kW : IntKind.i64.wrap (dq - 1) = dq - 1 := IntWalk.i64_in _ (by omega)
          by_cases kG : Y = dq - 1
          · rw [decide_eq_true kG]
            replace kG : (Y == dq - 1) = true := by simpa using kG
            replace kK : (E == 0) = true := by simpa using kK
            go_enter Tryz.func63, Tryz.ntmps63
            go_wp2
            refine wp_region_any (by kernel_rfl) ?_
            change wpAny _ _ _ _ _ _ _ (World.drew _)
            refine region_invG 33 (fun j => if j = 28 then 4 else 5 + j) ((0, (.agg #[.int .i64 ds, .int .i64 dq])) :: (1, (.slice a n c)) :: (2, (.pointer (some ⟨w.heap.size, 0, none⟩))) :: (3, undef) :: [])
              (fun W => Below X.heap.size X W)
              (valsOf [isV (.pointer (some ⟨w.heap.size, 0, none⟩)), isV (.int .i64 ds), isV (.bool true), isV (.bool true), isV (.pointer (some ⟨w.heap.size, 1, none⟩)), isV (.int .i64 dq), isV (.bool true), isV (.bool true), isV (.bool true), isV (.pointer (some ⟨w.heap.size, 1, none⟩)), isV (.int .i64 dq), isV (.bool true), isV (.bool true), isV (.bool true), isV (.slice a n c), isV (.int .i64 E), isV (.bool true), isV (.bool true), isV (.bool true), isV (.slice a n c), isV (.pointer (some ⟨w.heap.size, 0, none⟩)), isV (.int .i64 ds), isV (.int .i64 Y), isV (.pointer (some ⟨w.heap.size, 1, none⟩)), isV (.int .i64 dq), isV (.int .i64 (dq - 1)), isV (.bool true), isV (.bool true), isV (.bool true)])
              (fun w w' => Below w.heap.size w w') ?fit (fun w1 w2 h hG => h.trans (hG.mono h.size)) (valsOf_stable ?stable) (fun _ => true) [(3, true), (8, true), (13, true), (18, true)] ?gs ?gv ?steps ?fin _ _ ?sz rfl ?base ?start
            case fit => kernel_rfl
            case sz => rfl
            case gs => kernel_rfl
            case gv => intro p hp w v hv; simp only [List.mem_cons, List.not_mem_nil, or_false] at hp; rcases hp with rfl | rfl | rfl | rfl <;> exact hv
            case base => intro p hp; repeat (first | (rcases List.mem_cons.1 hp with rfl | hp; · rfl) | cases hp)
            case stable => exact Stables.all (by repeat (first | exact .nil | refine .same ?_))
            case start => exact (Below.refl _ _).drew
            case steps =>
              refine .cons (fun ρ wz hρ hJ hb hd => by
                refine Eq.mpr (if_neg (by decide)) ?_
                have dd0 : ρ (.tmp 2) = (.pointer (some ⟨w.heap.size, 0, none⟩)) := hb (2, _) (List.mem_of_getElem? (i := 2) rfl)
                exact step_val (v := (.pointer (some ⟨w.heap.size, 0, none⟩))) (w' := wz) (by simp [go_sem, execOp, dd0, hρ.const, kL, kM, kK, kW, kG]) ⟨Below.refl _ _, rfl⟩) ?_
              refine .cons (fun ρ wz hρ hJ hb hd => by
                refine Eq.mpr (if_neg (by decide)) ?_
                have dd0 : ρ (.tmp 5) = (.pointer (some ⟨w.heap.size, 0, none⟩)) := hd 0 _ rfl rfl
                have q := (unhide HX).below hJ
                have x0 := q.cell 0 _ rfl
                have x1 := q.cell 1 _ rfl
                exact step_val (v := (.int .i64 ds)) (w' := wz) (by simp [go_sem, execOp, dd0, x0, x1]) ⟨Below.refl _ _, rfl⟩) ?_
              refine .cons (fun ρ wz hρ hJ hb hd => by
                refine Eq.mpr (if_neg (by decide)) ?_
                have dd0 : ρ (.tmp 6) = (.int .i64 ds) := hd 0 _ rfl rfl
                refine step_func 83 _ _ #[.int .i64 ds] hρ rfl (enters_of Tryz.func83 (by kernel_rfl) rfl) (by simp [dd0]) ?_
                refine (unhide HT wz).mono ?_
                rintro r W' ⟨rfl, rfl⟩
                exact ⟨_, rfl, Below.refl _ _, rfl⟩) ?_
              refine .cons (fun ρ wz hρ hJ hb hd => by
                refine Eq.mpr (if_neg (by decide)) ?_
                have dd0 : ρ (.tmp 7) = (.bool true) := hd 0 _ rfl rfl
                exact step_move (.tmp 7) rfl ⟨Below.refl _ _, dd0⟩) ?_
              refine .cons (fun ρ wz hρ hJ hb hd => by
                refine Eq.mpr (if_neg (by decide)) ?_
                have dd0 : ρ (.tmp 2) = (.pointer (some ⟨w.heap.size, 0, none⟩)) := hb (2, _) (List.mem_of_getElem? (i := 2) rfl)
                exact step_val (v := (.pointer (some ⟨w.heap.size, 1, none⟩))) (w' := wz) (by simp [go_sem, execOp, dd0, hρ.const, kL, kM, kK, kW, kG]) ⟨Below.refl _ _, rfl⟩) ?_
              refine .cons (fun ρ wz hρ hJ hb hd => by
                refine Eq.mpr (if_neg (by decide)) ?_
                have dd0 : ρ (.tmp 9) = (.pointer (some ⟨w.heap.size, 1, none⟩)) := hd 0 _ rfl rfl
                have q := (unhide HX).below hJ
                have x0 := q.cell 0 _ rfl
                have x1 := q.cell 1 _ rfl
                exact step_val (v := (.int .i64 dq)) (w' := wz) (by simp [go_sem, execOp, dd0, x0, x1]) ⟨Below.refl _ _, rfl⟩) ?_
              refine .cons (fun ρ wz hρ hJ hb hd => by
                refine Eq.mpr (if_neg (by decide)) ?_
                have dd0 : ρ (.tmp 10) = (.int .i64 dq) := hd 0 _ rfl rfl
                exact step_val (v := (.bool true)) (w' := wz) (by simp [go_sem, execOp, dd0, hρ.const, kL, kM, kK, kW, kG]) ⟨Below.refl _ _, rfl⟩) ?_
              refine .cons (fun ρ wz hρ hJ hb hd => by
                refine Eq.mpr (if_neg (by decide)) ?_
                have dd0 : ρ (.tmp 8) = (.bool true) := hd 0 _ rfl rfl
                have dd1 : ρ (.tmp 11) = (.bool true) := hd 1 _ rfl rfl
                exact step_val (v := (.bool true)) (w' := wz) (by simp [go_sem, execOp, dd0, dd1, hρ.const, kL, kM, kK, kW, kG]) ⟨Below.refl _ _, rfl⟩) ?_
              refine .cons (fun ρ wz hρ hJ hb hd => by
                refine Eq.mpr (if_neg (by decide)) ?_
                have dd0 : ρ (.tmp 12) = (.bool true) := hd 0 _ rfl rfl
                exact step_move (.tmp 12) rfl ⟨Below.refl _ _, dd0⟩) ?_
              refine .cons (fun ρ wz hρ hJ hb hd => by
                refine Eq.mpr (if_neg (by decide)) ?_
                have dd0 : ρ (.tmp 2) = (.pointer (some ⟨w.heap.size, 0, none⟩)) := hb (2, _) (List.mem_of_getElem? (i := 2) rfl)
                exact step_val (v := (.pointer (some ⟨w.heap.size, 1, none⟩))) (w' := wz) (by simp [go_sem, execOp, dd0, hρ.const, kL, kM, kK, kW, kG]) ⟨Below.refl _ _, rfl⟩) ?_
              refine .cons (fun ρ wz hρ hJ hb hd => by
                refine Eq.mpr (if_neg (by decide)) ?_
                have dd0 : ρ (.tmp 14) = (.pointer (some ⟨w.heap.size, 1, none⟩)) := hd 0 _ rfl rfl
                have q := (unhide HX).below hJ
                have x0 := q.cell 0 _ rfl
                have x1 := q.cell 1 _ rfl
                exact step_val (v := (.int .i64 dq)) (w' := wz) (by simp [go_sem, execOp, dd0, x0, x1]) ⟨Below.refl _ _, rfl⟩) ?_
              refine .cons (fun ρ wz hρ hJ hb hd => by
                refine Eq.mpr (if_neg (by decide)) ?_
                have dd0 : ρ (.tmp 15) = (.int .i64 dq) := hd 0 _ rfl rfl
                exact step_val (v := (.bool true)) (w' := wz) (by simp [go_sem, execOp, dd0, hρ.const, kL, kM, kK, kW, kG]) ⟨Below.refl _ _, rfl⟩) ?_
              refine .cons (fun ρ wz hρ hJ hb hd => by
                refine Eq.mpr (if_neg (by decide)) ?_
                have dd0 : ρ (.tmp 13) = (.bool true) := hd 0 _ rfl rfl
                have dd1 : ρ (.tmp 16) = (.bool true) := hd 1 _ rfl rfl
                exact step_val (v := (.bool true)) (w' := wz) (by simp [go_sem, execOp, dd0, dd1, hρ.const, kL, kM, kK, kW, kG]) ⟨Below.refl _ _, rfl⟩) ?_
              refine .cons (fun ρ wz hρ hJ hb hd => by
                refine Eq.mpr (if_neg (by decide)) ?_
                have dd0 : ρ (.tmp 17) = (.bool true) := hd 0 _ rfl rfl
                exact step_move (.tmp 17) rfl ⟨Below.refl _ _, dd0⟩) ?_
              refine .cons (fun ρ wz hρ hJ hb hd => by
                refine Eq.mpr (if_neg (by decide)) ?_
                have dd0 : ρ (.tmp 1) = (.slice a n c) := hb (1, _) (List.mem_of_getElem? (i := 1) rfl)
                exact step_move (.tmp 1) rfl ⟨Below.refl _ _, dd0⟩) ?_
              refine .cons (fun ρ wz hρ hJ hb hd => by
                refine Eq.mpr (if_neg (by decide)) ?_
                have dd0 : ρ (.tmp 19) = (.slice a n c) := hd 0 _ rfl rfl
                refine step_func 32 _ _ #[.slice a n c] hρ rfl (enters_of Tryz.func32 (by kernel_rfl) rfl) (by simp [dd0]) ?_
                refine (unhide HC wz hJ).mono ?_
                rintro r W' ⟨rfl, hb2⟩
                exact ⟨_, rfl, hb2, rfl⟩) ?_
              refine .cons (fun ρ wz hρ hJ hb hd => by
                refine Eq.mpr (if_neg (by decide)) ?_
                have dd0 : ρ (.tmp 20) = (.int .i64 E) := hd 0 _ rfl rfl
                exact step_val (v := (.bool true)) (w' := wz) (by simp [go_sem, execOp, dd0, hρ.const, kL, kM, kK, kW, kG]) ⟨Below.refl _ _, rfl⟩) ?_
              refine .cons (fun ρ wz hρ hJ hb hd => by
                refine Eq.mpr (if_neg (by decide)) ?_
                have dd0 : ρ (.tmp 18) = (.bool true) := hd 0 _ rfl rfl
                have dd1 : ρ (.tmp 21) = (.bool true) := hd 1 _ rfl rfl
                exact step_val (v := (.bool true)) (w' := wz) (by simp [go_sem, execOp, dd0, dd1, hρ.const, kL, kM, kK, kW, kG]) ⟨Below.refl _ _, rfl⟩) ?_
              refine .cons (fun ρ wz hρ hJ hb hd => by
                refine Eq.mpr (if_neg (by decide)) ?_
                have dd0 : ρ (.tmp 22) = (.bool true) := hd 0 _ rfl rfl
                exact step_move (.tmp 22) rfl ⟨Below.refl _ _, dd0⟩) ?_
              refine .cons (fun ρ wz hρ hJ hb hd => by
                refine Eq.mpr (if_neg (by decide)) ?_
                have dd0 : ρ (.tmp 1) = (.slice a n c) := hb (1, _) (List.mem_of_getElem? (i := 1) rfl)
                exact step_move (.tmp 1) rfl ⟨Below.refl _ _, dd0⟩) ?_
              refine .cons (fun ρ wz hρ hJ hb hd => by
                refine Eq.mpr (if_neg (by decide)) ?_
                have dd0 : ρ (.tmp 2) = (.pointer (some ⟨w.heap.size, 0, none⟩)) := hb (2, _) (List.mem_of_getElem? (i := 2) rfl)
                exact step_val (v := (.pointer (some ⟨w.heap.size, 0, none⟩))) (w' := wz) (by simp [go_sem, execOp, dd0, hρ.const, kL, kM, kK, kW, kG]) ⟨Below.refl _ _, rfl⟩) ?_
              refine .cons (fun ρ wz hρ hJ hb hd => by
                refine Eq.mpr (if_neg (by decide)) ?_
                have dd0 : ρ (.tmp 25) = (.pointer (some ⟨w.heap.size, 0, none⟩)) := hd 0 _ rfl rfl
                have q := (unhide HX).below hJ
                have x0 := q.cell 0 _ rfl
                have x1 := q.cell 1 _ rfl
                exact step_val (v := (.int .i64 ds)) (w' := wz) (by simp [go_sem, execOp, dd0, x0, x1]) ⟨Below.refl _ _, rfl⟩) ?_
              refine .cons (fun ρ wz hρ hJ hb hd => by
                refine Eq.mpr (if_neg (by decide)) ?_
                have dd0 : ρ (.tmp 24) = (.slice a n c) := hd 0 _ rfl rfl
                have dd1 : ρ (.tmp 26) = (.int .i64 ds) := hd 1 _ rfl rfl
                refine step_func 70 _ _ #[.slice a n c, .int .i64 ds] hρ rfl (enters_of Tryz.func70 (by kernel_rfl) rfl) (by simp [dd0, dd1]) ?_
                refine (unhide HG wz hJ).mono ?_
                rintro r W' ⟨rfl, hb2⟩
                exact ⟨_, rfl, hb2, rfl⟩) ?_
              refine .cons (fun ρ wz hρ hJ hb hd => by
                refine Eq.mpr (if_neg (by decide)) ?_
                have dd0 : ρ (.tmp 2) = (.pointer (some ⟨w.heap.size, 0, none⟩)) := hb (2, _) (List.mem_of_getElem? (i := 2) rfl)
                exact step_val (v := (.pointer (some ⟨w.heap.size, 1, none⟩))) (w' := wz) (by simp [go_sem, execOp, dd0, hρ.const, kL, kM, kK, kW, kG]) ⟨Below.refl _ _, rfl⟩) ?_
              refine .cons (fun ρ wz hρ hJ hb hd => by
                refine Eq.mpr (if_neg (by decide)) ?_
                have dd0 : ρ (.tmp 28) = (.pointer (some ⟨w.heap.size, 1, none⟩)) := hd 0 _ rfl rfl
                have q := (unhide HX).below hJ
                have x0 := q.cell 0 _ rfl
                have x1 := q.cell 1 _ rfl
                exact step_val (v := (.int .i64 dq)) (w' := wz) (by simp [go_sem, execOp, dd0, x0, x1]) ⟨Below.refl _ _, rfl⟩) ?_
              refine .cons (fun ρ wz hρ hJ hb hd => by
                refine Eq.mpr (if_neg (by decide)) ?_
                have dd0 : ρ (.tmp 29) = (.int .i64 dq) := hd 0 _ rfl rfl
                exact step_val (v := (.int .i64 (dq - 1))) (w' := wz) (by simp [go_sem, execOp, dd0, hρ.const, kL, kM, kK, kW, kG]) ⟨Below.refl _ _, rfl⟩) ?_
              refine .cons (fun ρ wz hρ hJ hb hd => by
                refine Eq.mpr (if_neg (by decide)) ?_
                have dd0 : ρ (.tmp 27) = (.int .i64 Y) := hd 0 _ rfl rfl
                have dd1 : ρ (.tmp 30) = (.int .i64 (dq - 1)) := hd 1 _ rfl rfl
                exact step_val (v := (.bool true)) (w' := wz) (by simp [go_sem, execOp, dd0, dd1, hρ.const, kL, kM, kK, kW, kG]) ⟨Below.refl _ _, rfl⟩) ?_
              refine .cons (fun ρ wz hρ hJ hb hd => by
                refine Eq.mpr (if_neg (by decide)) ?_
                have dd0 : ρ (.tmp 23) = (.bool true) := hd 0 _ rfl rfl
                have dd1 : ρ (.tmp 31) = (.bool true) := hd 1 _ rfl rfl
                exact step_val (v := (.bool true)) (w' := wz) (by simp [go_sem, execOp, dd0, dd1, hρ.const, kL, kM, kK, kW, kG]) ⟨Below.refl _ _, rfl⟩) ?_
              refine .cons (fun ρ wz hρ hJ hb hd => by
                refine Eq.mpr (if_neg (by decide)) ?_
                have dd0 : ρ (.tmp 32) = (.bool true) := hd 0 _ rfl rfl
                exact step_assign (.tmp 32) rfl ⟨Below.refl _ _, dd0⟩) (.nil _)
            case fin =>
              intro aQ WQ hsz2 hds hb hJ hv
              obtain rfl := frame_of (((0, (.agg #[.int .i64 ds, .int .i64 dq])) :: (1, (.slice a n c)) :: (2, (.pointer (some ⟨w.heap.size, 0, none⟩))) :: (3, undef) :: []) ++ ((5, (.pointer (some ⟨w.heap.size, 0, none⟩))) :: (6, (.int .i64 ds)) :: (7, (.bool true)) :: (8, (.bool true)) :: (9, (.pointer (some ⟨w.heap.size, 1, none⟩))) :: (10, (.int .i64 dq)) :: (11, (.bool true)) :: (12, (.bool true)) :: (13, (.bool true)) :: (14, (.pointer (some ⟨w.heap.size, 1, none⟩))) :: (15, (.int .i64 dq)) :: (16, (.bool true)) :: (17, (.bool true)) :: (18, (.bool true)) :: (19, (.slice a n c)) :: (20, (.int .i64 E)) :: (21, (.bool true)) :: (22, (.bool true)) :: (23, (.bool true)) :: (24, (.slice a n c)) :: (25, (.pointer (some ⟨w.heap.size, 0, none⟩))) :: (26, (.int .i64 ds)) :: (27, (.int .i64 Y)) :: (28, (.pointer (some ⟨w.heap.size, 1, none⟩))) :: (29, (.int .i64 dq)) :: (30, (.int .i64 (dq - 1))) :: (31, (.bool true)) :: (32, (.bool true)) :: (4, (.bool true)) :: [])) ((.agg #[.int .i64 ds, .int .i64 dq]) :: (.slice a n c) :: (.pointer (some ⟨w.heap.size, 0, none⟩)) :: undef :: (.bool true) :: (.pointer (some ⟨w.heap.size, 0, none⟩)) :: (.int .i64 ds) :: (.bool true) :: (.bool true) :: (.pointer (some ⟨w.heap.size, 1, none⟩)) :: (.int .i64 dq) :: (.bool true) :: (.bool true) :: (.bool true) :: (.pointer (some ⟨w.heap.size, 1, none⟩)) :: (.int .i64 dq) :: (.bool true) :: (.bool true) :: (.bool true) :: (.slice a n c) :: (.int .i64 E) :: (.bool true) :: (.bool true) :: (.bool true) :: (.slice a n c) :: (.pointer (some ⟨w.heap.size, 0, none⟩)) :: (.int .i64 ds) :: (.int .i64 Y) :: (.pointer (some ⟨w.heap.size, 1, none⟩)) :: (.int .i64 dq) :: (.int .i64 (dq - 1)) :: (.bool true) :: (.bool true) :: []) hsz2 hds (fun p hp => by
                rcases List.mem_append.1 hp with h | h
                · exact hb p h
                · simp only [List.mem_cons, List.not_mem_nil, or_false] at h
                  rcases h with rfl | rfl | rfl | rfl | rfl | rfl | rfl | rfl | rfl | rfl | rfl | rfl | rfl | rfl | rfl | rfl | rfl | rfl | rfl | rfl | rfl | rfl | rfl | rfl | rfl | rfl | rfl | rfl | rfl
                  · exact hv 0 (by decide)
                  · exact hv 1 (by decide)
                  · exact hv 2 (by decide)
                  · exact hv 3 (by decide)
                  · exact hv 4 (by decide)
                  · exact hv 5 (by decide)
                  · exact hv 6 (by decide)
                  · exact hv 7 (by decide)
                  · exact hv 8 (by decide)
                  · exact hv 9 (by decide)
                  · exact hv 10 (by decide)
                  · exact hv 11 (by decide)
                  · exact hv 12 (by decide)
                  · exact hv 13 (by decide)
                  · exact hv 14 (by decide)
                  · exact hv 15 (by decide)
                  · exact hv 16 (by decide)
                  · exact hv 17 (by decide)
                  · exact hv 18 (by decide)
                  · exact hv 19 (by decide)
                  · exact hv 20 (by decide)
                  · exact hv 21 (by decide)
                  · exact hv 22 (by decide)
                  · exact hv 23 (by decide)
                  · exact hv 24 (by decide)
                  · exact hv 25 (by decide)
                  · exact hv 26 (by decide)
                  · exact hv 27 (by decide)
                  · exact hv 28 (by decide)) rfl
              clear hb hds hsz2 hv
              go_wp2
              go_ret
              exact ⟨rfl, bnext (unhide B0) hJ⟩
          · rw [decide_eq_false kG]
            replace kG : (Y == dq - 1) = false := by simpa using kG
            replace kK : (E == 0) = true := by simpa using kK
            go_enter Tryz.func63, Tryz.ntmps63
            go_wp2
            refine wp_region_any (by kernel_rfl) ?_
            change wpAny _ _ _ _ _ _ _ (World.drew _)
            refine region_invG 33 (fun j => if j = 28 then 4 else 5 + j) ((0, (.agg #[.int .i64 ds, .int .i64 dq])) :: (1, (.slice a n c)) :: (2, (.pointer (some ⟨w.heap.size, 0, none⟩))) :: (3, undef) :: [])
              (fun W => Below X.heap.size X W)
              (valsOf [isV (.pointer (some ⟨w.heap.size, 0, none⟩)), isV (.int .i64 ds), isV (.bool true), isV (.bool true), isV (.pointer (some ⟨w.heap.size, 1, none⟩)), isV (.int .i64 dq), isV (.bool true), isV (.bool true), isV (.bool true), isV (.pointer (some ⟨w.heap.size, 1, none⟩)), isV (.int .i64 dq), isV (.bool true), isV (.bool true), isV (.bool true), isV (.slice a n c), isV (.int .i64 E), isV (.bool true), isV (.bool true), isV (.bool true), isV (.slice a n c), isV (.pointer (some ⟨w.heap.size, 0, none⟩)), isV (.int .i64 ds), isV (.int .i64 Y), isV (.pointer (some ⟨w.heap.size, 1, none⟩)), isV (.int .i64 dq), isV (.int .i64 (dq - 1)), isV (.bool false), isV (.bool false), isV (.bool false)])
              (fun w w' => Below w.heap.size w w') ?fit (fun w1 w2 h hG => h.trans (hG.mono h.size)) (valsOf_stable ?stable) (fun _ => true) [(3, true), (8, true), (13, true), (18, true)] ?gs ?gv ?steps ?fin _ _ ?sz rfl ?base ?start
            case fit => kernel_rfl
            case sz => rfl
            case gs => kernel_rfl
            case gv => intro p hp w v hv; simp only [List.mem_cons, List.not_mem_nil, or_false] at hp; rcases hp with rfl | rfl | rfl | rfl <;> exact hv
            case base => intro p hp; repeat (first | (rcases List.mem_cons.1 hp with rfl | hp; · rfl) | cases hp)
            case stable => exact Stables.all (by repeat (first | exact .nil | refine .same ?_))
            case start => exact (Below.refl _ _).drew
            case steps =>
              refine .cons (fun ρ wz hρ hJ hb hd => by
                refine Eq.mpr (if_neg (by decide)) ?_
                have dd0 : ρ (.tmp 2) = (.pointer (some ⟨w.heap.size, 0, none⟩)) := hb (2, _) (List.mem_of_getElem? (i := 2) rfl)
                exact step_val (v := (.pointer (some ⟨w.heap.size, 0, none⟩))) (w' := wz) (by simp [go_sem, execOp, dd0, hρ.const, kL, kM, kK, kW, kG]) ⟨Below.refl _ _, rfl⟩) ?_
              refine .cons (fun ρ wz hρ hJ hb hd => by
                refine Eq.mpr (if_neg (by decide)) ?_
                have dd0 : ρ (.tmp 5) = (.pointer (some ⟨w.heap.size, 0, none⟩)) := hd 0 _ rfl rfl
                have q := (unhide HX).below hJ
                have x0 := q.cell 0 _ rfl
                have x1 := q.cell 1 _ rfl
                exact step_val (v := (.int .i64 ds)) (w' := wz) (by simp [go_sem, execOp, dd0, x0, x1]) ⟨Below.refl _ _, rfl⟩) ?_
              refine .cons (fun ρ wz hρ hJ hb hd => by
                refine Eq.mpr (if_neg (by decide)) ?_
                have dd0 : ρ (.tmp 6) = (.int .i64 ds) := hd 0 _ rfl rfl
                refine step_func 83 _ _ #[.int .i64 ds] hρ rfl (enters_of Tryz.func83 (by kernel_rfl) rfl) (by simp [dd0]) ?_
                refine (unhide HT wz).mono ?_
                rintro r W' ⟨rfl, rfl⟩
                exact ⟨_, rfl, Below.refl _ _, rfl⟩) ?_
              refine .cons (fun ρ wz hρ hJ hb hd => by
                refine Eq.mpr (if_neg (by decide)) ?_
                have dd0 : ρ (.tmp 7) = (.bool true) := hd 0 _ rfl rfl
                exact step_move (.tmp 7) rfl ⟨Below.refl _ _, dd0⟩) ?_
              refine .cons (fun ρ wz hρ hJ hb hd => by
                refine Eq.mpr (if_neg (by decide)) ?_
                have dd0 : ρ (.tmp 2) = (.pointer (some ⟨w.heap.size, 0, none⟩)) := hb (2, _) (List.mem_of_getElem? (i := 2) rfl)
                exact step_val (v := (.pointer (some ⟨w.heap.size, 1, none⟩))) (w' := wz) (by simp [go_sem, execOp, dd0, hρ.const, kL, kM, kK, kW, kG]) ⟨Below.refl _ _, rfl⟩) ?_
              refine .cons (fun ρ wz hρ hJ hb hd => by
                refine Eq.mpr (if_neg (by decide)) ?_
                have dd0 : ρ (.tmp 9) = (.pointer (some ⟨w.heap.size, 1, none⟩)) := hd 0 _ rfl rfl
                have q := (unhide HX).below hJ
                have x0 := q.cell 0 _ rfl
                have x1 := q.cell 1 _ rfl
                exact step_val (v := (.int .i64 dq)) (w' := wz) (by simp [go_sem, execOp, dd0, x0, x1]) ⟨Below.refl _ _, rfl⟩) ?_
              refine .cons (fun ρ wz hρ hJ hb hd => by
                refine Eq.mpr (if_neg (by decide)) ?_
                have dd0 : ρ (.tmp 10) = (.int .i64 dq) := hd 0 _ rfl rfl
                exact step_val (v := (.bool true)) (w' := wz) (by simp [go_sem, execOp, dd0, hρ.const, kL, kM, kK, kW, kG]) ⟨Below.refl _ _, rfl⟩) ?_
              refine .cons (fun ρ wz hρ hJ hb hd => by
                refine Eq.mpr (if_neg (by decide)) ?_
                have dd0 : ρ (.tmp 8) = (.bool true) := hd 0 _ rfl rfl
                have dd1 : ρ (.tmp 11) = (.bool true) := hd 1 _ rfl rfl
                exact step_val (v := (.bool true)) (w' := wz) (by simp [go_sem, execOp, dd0, dd1, hρ.const, kL, kM, kK, kW, kG]) ⟨Below.refl _ _, rfl⟩) ?_
              refine .cons (fun ρ wz hρ hJ hb hd => by
                refine Eq.mpr (if_neg (by decide)) ?_
                have dd0 : ρ (.tmp 12) = (.bool true) := hd 0 _ rfl rfl
                exact step_move (.tmp 12) rfl ⟨Below.refl _ _, dd0⟩) ?_
              refine .cons (fun ρ wz hρ hJ hb hd => by
                refine Eq.mpr (if_neg (by decide)) ?_
                have dd0 : ρ (.tmp 2) = (.pointer (some ⟨w.heap.size, 0, none⟩)) := hb (2, _) (List.mem_of_getElem? (i := 2) rfl)
                exact step_val (v := (.pointer (some ⟨w.heap.size, 1, none⟩))) (w' := wz) (by simp [go_sem, execOp, dd0, hρ.const, kL, kM, kK, kW, kG]) ⟨Below.refl _ _, rfl⟩) ?_
              refine .cons (fun ρ wz hρ hJ hb hd => by
                refine Eq.mpr (if_neg (by decide)) ?_
                have dd0 : ρ (.tmp 14) = (.pointer (some ⟨w.heap.size, 1, none⟩)) := hd 0 _ rfl rfl
                have q := (unhide HX).below hJ
                have x0 := q.cell 0 _ rfl
                have x1 := q.cell 1 _ rfl
                exact step_val (v := (.int .i64 dq)) (w' := wz) (by simp [go_sem, execOp, dd0, x0, x1]) ⟨Below.refl _ _, rfl⟩) ?_
              refine .cons (fun ρ wz hρ hJ hb hd => by
                refine Eq.mpr (if_neg (by decide)) ?_
                have dd0 : ρ (.tmp 15) = (.int .i64 dq) := hd 0 _ rfl rfl
                exact step_val (v := (.bool true)) (w' := wz) (by simp [go_sem, execOp, dd0, hρ.const, kL, kM, kK, kW, kG]) ⟨Below.refl _ _, rfl⟩) ?_
              refine .cons (fun ρ wz hρ hJ hb hd => by
                refine Eq.mpr (if_neg (by decide)) ?_
                have dd0 : ρ (.tmp 13) = (.bool true) := hd 0 _ rfl rfl
                have dd1 : ρ (.tmp 16) = (.bool true) := hd 1 _ rfl rfl
                exact step_val (v := (.bool true)) (w' := wz) (by simp [go_sem, execOp, dd0, dd1, hρ.const, kL, kM, kK, kW, kG]) ⟨Below.refl _ _, rfl⟩) ?_
              refine .cons (fun ρ wz hρ hJ hb hd => by
                refine Eq.mpr (if_neg (by decide)) ?_
                have dd0 : ρ (.tmp 17) = (.bool true) := hd 0 _ rfl rfl
                exact step_move (.tmp 17) rfl ⟨Below.refl _ _, dd0⟩) ?_
              refine .cons (fun ρ wz hρ hJ hb hd => by
                refine Eq.mpr (if_neg (by decide)) ?_
                have dd0 : ρ (.tmp 1) = (.slice a n c) := hb (1, _) (List.mem_of_getElem? (i := 1) rfl)
                exact step_move (.tmp 1) rfl ⟨Below.refl _ _, dd0⟩) ?_
              refine .cons (fun ρ wz hρ hJ hb hd => by
                refine Eq.mpr (if_neg (by decide)) ?_
                have dd0 : ρ (.tmp 19) = (.slice a n c) := hd 0 _ rfl rfl
                refine step_func 32 _ _ #[.slice a n c] hρ rfl (enters_of Tryz.func32 (by kernel_rfl) rfl) (by simp [dd0]) ?_
                refine (unhide HC wz hJ).mono ?_
                rintro r W' ⟨rfl, hb2⟩
                exact ⟨_, rfl, hb2, rfl⟩) ?_
              refine .cons (fun ρ wz hρ hJ hb hd => by
                refine Eq.mpr (if_neg (by decide)) ?_
                have dd0 : ρ (.tmp 20) = (.int .i64 E) := hd 0 _ rfl rfl
                exact step_val (v := (.bool true)) (w' := wz) (by simp [go_sem, execOp, dd0, hρ.const, kL, kM, kK, kW, kG]) ⟨Below.refl _ _, rfl⟩) ?_
              refine .cons (fun ρ wz hρ hJ hb hd => by
                refine Eq.mpr (if_neg (by decide)) ?_
                have dd0 : ρ (.tmp 18) = (.bool true) := hd 0 _ rfl rfl
                have dd1 : ρ (.tmp 21) = (.bool true) := hd 1 _ rfl rfl
                exact step_val (v := (.bool true)) (w' := wz) (by simp [go_sem, execOp, dd0, dd1, hρ.const, kL, kM, kK, kW, kG]) ⟨Below.refl _ _, rfl⟩) ?_
              refine .cons (fun ρ wz hρ hJ hb hd => by
                refine Eq.mpr (if_neg (by decide)) ?_
                have dd0 : ρ (.tmp 22) = (.bool true) := hd 0 _ rfl rfl
                exact step_move (.tmp 22) rfl ⟨Below.refl _ _, dd0⟩) ?_
              refine .cons (fun ρ wz hρ hJ hb hd => by
                refine Eq.mpr (if_neg (by decide)) ?_
                have dd0 : ρ (.tmp 1) = (.slice a n c) := hb (1, _) (List.mem_of_getElem? (i := 1) rfl)
                exact step_move (.tmp 1) rfl ⟨Below.refl _ _, dd0⟩) ?_
              refine .cons (fun ρ wz hρ hJ hb hd => by
                refine Eq.mpr (if_neg (by decide)) ?_
                have dd0 : ρ (.tmp 2) = (.pointer (some ⟨w.heap.size, 0, none⟩)) := hb (2, _) (List.mem_of_getElem? (i := 2) rfl)
                exact step_val (v := (.pointer (some ⟨w.heap.size, 0, none⟩))) (w' := wz) (by simp [go_sem, execOp, dd0, hρ.const, kL, kM, kK, kW, kG]) ⟨Below.refl _ _, rfl⟩) ?_
              refine .cons (fun ρ wz hρ hJ hb hd => by
                refine Eq.mpr (if_neg (by decide)) ?_
                have dd0 : ρ (.tmp 25) = (.pointer (some ⟨w.heap.size, 0, none⟩)) := hd 0 _ rfl rfl
                have q := (unhide HX).below hJ
                have x0 := q.cell 0 _ rfl
                have x1 := q.cell 1 _ rfl
                exact step_val (v := (.int .i64 ds)) (w' := wz) (by simp [go_sem, execOp, dd0, x0, x1]) ⟨Below.refl _ _, rfl⟩) ?_
              refine .cons (fun ρ wz hρ hJ hb hd => by
                refine Eq.mpr (if_neg (by decide)) ?_
                have dd0 : ρ (.tmp 24) = (.slice a n c) := hd 0 _ rfl rfl
                have dd1 : ρ (.tmp 26) = (.int .i64 ds) := hd 1 _ rfl rfl
                refine step_func 70 _ _ #[.slice a n c, .int .i64 ds] hρ rfl (enters_of Tryz.func70 (by kernel_rfl) rfl) (by simp [dd0, dd1]) ?_
                refine (unhide HG wz hJ).mono ?_
                rintro r W' ⟨rfl, hb2⟩
                exact ⟨_, rfl, hb2, rfl⟩) ?_
              refine .cons (fun ρ wz hρ hJ hb hd => by
                refine Eq.mpr (if_neg (by decide)) ?_
                have dd0 : ρ (.tmp 2) = (.pointer (some ⟨w.heap.size, 0, none⟩)) := hb (2, _) (List.mem_of_getElem? (i := 2) rfl)
                exact step_val (v := (.pointer (some ⟨w.heap.size, 1, none⟩))) (w' := wz) (by simp [go_sem, execOp, dd0, hρ.const, kL, kM, kK, kW, kG]) ⟨Below.refl _ _, rfl⟩) ?_
              refine .cons (fun ρ wz hρ hJ hb hd => by
                refine Eq.mpr (if_neg (by decide)) ?_
                have dd0 : ρ (.tmp 28) = (.pointer (some ⟨w.heap.size, 1, none⟩)) := hd 0 _ rfl rfl
                have q := (unhide HX).below hJ
                have x0 := q.cell 0 _ rfl
                have x1 := q.cell 1 _ rfl
                exact step_val (v := (.int .i64 dq)) (w' := wz) (by simp [go_sem, execOp, dd0, x0, x1]) ⟨Below.refl _ _, rfl⟩) ?_
              refine .cons (fun ρ wz hρ hJ hb hd => by
                refine Eq.mpr (if_neg (by decide)) ?_
                have dd0 : ρ (.tmp 29) = (.int .i64 dq) := hd 0 _ rfl rfl
                exact step_val (v := (.int .i64 (dq - 1))) (w' := wz) (by simp [go_sem, execOp, dd0, hρ.const, kL, kM, kK, kW, kG]) ⟨Below.refl _ _, rfl⟩) ?_
              refine .cons (fun ρ wz hρ hJ hb hd => by
                refine Eq.mpr (if_neg (by decide)) ?_
                have dd0 : ρ (.tmp 27) = (.int .i64 Y) := hd 0 _ rfl rfl
                have dd1 : ρ (.tmp 30) = (.int .i64 (dq - 1)) := hd 1 _ rfl rfl
                exact step_val (v := (.bool false)) (w' := wz) (by simp [go_sem, execOp, dd0, dd1, hρ.const, kL, kM, kK, kW, kG]) ⟨Below.refl _ _, rfl⟩) ?_
              refine .cons (fun ρ wz hρ hJ hb hd => by
                refine Eq.mpr (if_neg (by decide)) ?_
                have dd0 : ρ (.tmp 23) = (.bool true) := hd 0 _ rfl rfl
                have dd1 : ρ (.tmp 31) = (.bool false) := hd 1 _ rfl rfl
                exact step_val (v := (.bool false)) (w' := wz) (by simp [go_sem, execOp, dd0, dd1, hρ.const, kL, kM, kK, kW, kG]) ⟨Below.refl _ _, rfl⟩) ?_
              refine .cons (fun ρ wz hρ hJ hb hd => by
                refine Eq.mpr (if_neg (by decide)) ?_
                have dd0 : ρ (.tmp 32) = (.bool false) := hd 0 _ rfl rfl
                exact step_assign (.tmp 32) rfl ⟨Below.refl _ _, dd0⟩) (.nil _)
            case fin =>
              intro aQ WQ hsz2 hds hb hJ hv
              obtain rfl := frame_of (((0, (.agg #[.int .i64 ds, .int .i64 dq])) :: (1, (.slice a n c)) :: (2, (.pointer (some ⟨w.heap.size, 0, none⟩))) :: (3, undef) :: []) ++ ((5, (.pointer (some ⟨w.heap.size, 0, none⟩))) :: (6, (.int .i64 ds)) :: (7, (.bool true)) :: (8, (.bool true)) :: (9, (.pointer (some ⟨w.heap.size, 1, none⟩))) :: (10, (.int .i64 dq)) :: (11, (.bool true)) :: (12, (.bool true)) :: (13, (.bool true)) :: (14, (.pointer (some ⟨w.heap.size, 1, none⟩))) :: (15, (.int .i64 dq)) :: (16, (.bool true)) :: (17, (.bool true)) :: (18, (.bool true)) :: (19, (.slice a n c)) :: (20, (.int .i64 E)) :: (21, (.bool true)) :: (22, (.bool true)) :: (23, (.bool true)) :: (24, (.slice a n c)) :: (25, (.pointer (some ⟨w.heap.size, 0, none⟩))) :: (26, (.int .i64 ds)) :: (27, (.int .i64 Y)) :: (28, (.pointer (some ⟨w.heap.size, 1, none⟩))) :: (29, (.int .i64 dq)) :: (30, (.int .i64 (dq - 1))) :: (31, (.bool false)) :: (32, (.bool false)) :: (4, (.bool false)) :: [])) ((.agg #[.int .i64 ds, .int .i64 dq]) :: (.slice a n c) :: (.pointer (some ⟨w.heap.size, 0, none⟩)) :: undef :: (.bool false) :: (.pointer (some ⟨w.heap.size, 0, none⟩)) :: (.int .i64 ds) :: (.bool true) :: (.bool true) :: (.pointer (some ⟨w.heap.size, 1, none⟩)) :: (.int .i64 dq) :: (.bool true) :: (.bool true) :: (.bool true) :: (.pointer (some ⟨w.heap.size, 1, none⟩)) :: (.int .i64 dq) :: (.bool true) :: (.bool true) :: (.bool true) :: (.slice a n c) :: (.int .i64 E) :: (.bool true) :: (.bool true) :: (.bool true) :: (.slice a n c) :: (.pointer (some ⟨w.heap.size, 0, none⟩)) :: (.int .i64 ds) :: (.int .i64 Y) :: (.pointer (some ⟨w.heap.size, 1, none⟩)) :: (.int .i64 dq) :: (.int .i64 (dq - 1)) :: (.bool false) :: (.bool false) :: []) hsz2 hds (fun p hp => by
                rcases List.mem_append.1 hp with h | h
                · exact hb p h
                · simp only [List.mem_cons, List.not_mem_nil, or_false] at h
                  rcases h with rfl | rfl | rfl | rfl | rfl | rfl | rfl | rfl | rfl | rfl | rfl | rfl | rfl | rfl | rfl | rfl | rfl | rfl | rfl | rfl | rfl | rfl | rfl | rfl | rfl | rfl | rfl | rfl | rfl
                  · exact hv 0 (by decide)
                  · exact hv 1 (by decide)
                  · exact hv 2 (by decide)
                  · exact hv 3 (by decide)
                  · exact hv 4 (by decide)
                  · exact hv 5 (by decide)
                  · exact hv 6 (by decide)
                  · exact hv 7 (by decide)
                  · exact hv 8 (by decide)
                  · exact hv 9 (by decide)
                  · exact hv 10 (by decide)
                  · exact hv 11 (by decide)
                  · exact hv 12 (by decide)
                  · exact hv 13 (by decide)
                  · exact hv 14 (by decide)
                  · exact hv 15 (by decide)
                  · exact hv 16 (by decide)
                  · exact hv 17 (by decide)
                  · exact hv 18 (by decide)
                  · exact hv 19 (by decide)
                  · exact hv 20 (by decide)
                  · exact hv 21 (by decide)
                  · exact hv 22 (by decide)
                  · exact hv 23 (by decide)
                  · exact hv 24 (by decide)
                  · exact hv 25 (by decide)
                  · exact hv 26 (by decide)
                  · exact hv 27 (by decide)
                  · exact hv 28 (by decide)) rfl
              clear hb hds hsz2 hv
              go_wp2
              go_ret
              exact ⟨rfl, bnext (unhide B0) hJ⟩
        · rw [decide_eq_false kK]
          simp only [Bool.false_and]
          have kW : True := trivial
          have kG : True := trivial
          go_enter Tryz.func63, Tryz.ntmps63
          go_wp2
          refine wp_region_any (by kernel_rfl) ?_
          change wpAny _ _ _ _ _ _ _ (World.drew _)
          refine region_invG 33 (fun j => if j = 28 then 4 else 5 + j) ((0, (.agg #[.int .i64 ds, .int .i64 dq])) :: (1, (.slice a n c)) :: (2, (.pointer (some ⟨w.heap.size, 0, none⟩))) :: (3, undef) :: [])
            (fun W => Below X.heap.size X W)
            (valsOf [isV (.pointer (some ⟨w.heap.size, 0, none⟩)), isV (.int .i64 ds), isV (.bool true), isV (.bool true), isV (.pointer (some ⟨w.heap.size, 1, none⟩)), isV (.int .i64 dq), isV (.bool true), isV (.bool true), isV (.bool true), isV (.pointer (some ⟨w.heap.size, 1, none⟩)), isV (.int .i64 dq), isV (.bool true), isV (.bool true), isV (.bool true), isV (.slice a n c), isV (.int .i64 E), isV (.bool false), isV (.bool false), isV (.bool false), isV undef, isV undef, isV undef, isV undef, isV undef, isV undef, isV undef, isV undef, isV (.bool false), isV (.bool false)])
            (fun w w' => Below w.heap.size w w') ?fit (fun w1 w2 h hG => h.trans (hG.mono h.size)) (valsOf_stable ?stable) (fun p => match p with | (3, true) => true | (8, true) => true | (13, true) => true | (18, true) => false | _ => true) [(3, true), (8, true), (13, true), (18, true)] ?gs ?gv ?steps ?fin _ _ ?sz rfl ?base ?start
          case fit => kernel_rfl
          case sz => rfl
          case gs => kernel_rfl
          case gv => intro p hp w v hv; simp only [List.mem_cons, List.not_mem_nil, or_false] at hp; rcases hp with rfl | rfl | rfl | rfl <;> exact hv
          case base => intro p hp; repeat (first | (rcases List.mem_cons.1 hp with rfl | hp; · rfl) | cases hp)
          case stable => exact Stables.all (by repeat (first | exact .nil | refine .same ?_))
          case start => exact (Below.refl _ _).drew
          case steps =>
            refine .cons (fun ρ wz hρ hJ hb hd => by
              refine Eq.mpr (if_neg (by decide)) ?_
              have dd0 : ρ (.tmp 2) = (.pointer (some ⟨w.heap.size, 0, none⟩)) := hb (2, _) (List.mem_of_getElem? (i := 2) rfl)
              exact step_val (v := (.pointer (some ⟨w.heap.size, 0, none⟩))) (w' := wz) (by simp [go_sem, execOp, dd0, hρ.const, kL, kM, kK, kW, kG]) ⟨Below.refl _ _, rfl⟩) ?_
            refine .cons (fun ρ wz hρ hJ hb hd => by
              refine Eq.mpr (if_neg (by decide)) ?_
              have dd0 : ρ (.tmp 5) = (.pointer (some ⟨w.heap.size, 0, none⟩)) := hd 0 _ rfl rfl
              have q := (unhide HX).below hJ
              have x0 := q.cell 0 _ rfl
              have x1 := q.cell 1 _ rfl
              exact step_val (v := (.int .i64 ds)) (w' := wz) (by simp [go_sem, execOp, dd0, x0, x1]) ⟨Below.refl _ _, rfl⟩) ?_
            refine .cons (fun ρ wz hρ hJ hb hd => by
              refine Eq.mpr (if_neg (by decide)) ?_
              have dd0 : ρ (.tmp 6) = (.int .i64 ds) := hd 0 _ rfl rfl
              refine step_func 83 _ _ #[.int .i64 ds] hρ rfl (enters_of Tryz.func83 (by kernel_rfl) rfl) (by simp [dd0]) ?_
              refine (unhide HT wz).mono ?_
              rintro r W' ⟨rfl, rfl⟩
              exact ⟨_, rfl, Below.refl _ _, rfl⟩) ?_
            refine .cons (fun ρ wz hρ hJ hb hd => by
              refine Eq.mpr (if_neg (by decide)) ?_
              have dd0 : ρ (.tmp 7) = (.bool true) := hd 0 _ rfl rfl
              exact step_move (.tmp 7) rfl ⟨Below.refl _ _, dd0⟩) ?_
            refine .cons (fun ρ wz hρ hJ hb hd => by
              refine Eq.mpr (if_neg (by decide)) ?_
              have dd0 : ρ (.tmp 2) = (.pointer (some ⟨w.heap.size, 0, none⟩)) := hb (2, _) (List.mem_of_getElem? (i := 2) rfl)
              exact step_val (v := (.pointer (some ⟨w.heap.size, 1, none⟩))) (w' := wz) (by simp [go_sem, execOp, dd0, hρ.const, kL, kM, kK, kW, kG]) ⟨Below.refl _ _, rfl⟩) ?_
            refine .cons (fun ρ wz hρ hJ hb hd => by
              refine Eq.mpr (if_neg (by decide)) ?_
              have dd0 : ρ (.tmp 9) = (.pointer (some ⟨w.heap.size, 1, none⟩)) := hd 0 _ rfl rfl
              have q := (unhide HX).below hJ
              have x0 := q.cell 0 _ rfl
              have x1 := q.cell 1 _ rfl
              exact step_val (v := (.int .i64 dq)) (w' := wz) (by simp [go_sem, execOp, dd0, x0, x1]) ⟨Below.refl _ _, rfl⟩) ?_
            refine .cons (fun ρ wz hρ hJ hb hd => by
              refine Eq.mpr (if_neg (by decide)) ?_
              have dd0 : ρ (.tmp 10) = (.int .i64 dq) := hd 0 _ rfl rfl
              exact step_val (v := (.bool true)) (w' := wz) (by simp [go_sem, execOp, dd0, hρ.const, kL, kM, kK, kW, kG]) ⟨Below.refl _ _, rfl⟩) ?_
            refine .cons (fun ρ wz hρ hJ hb hd => by
              refine Eq.mpr (if_neg (by decide)) ?_
              have dd0 : ρ (.tmp 8) = (.bool true) := hd 0 _ rfl rfl
              have dd1 : ρ (.tmp 11) = (.bool true) := hd 1 _ rfl rfl
              exact step_val (v := (.bool true)) (w' := wz) (by simp [go_sem, execOp, dd0, dd1, hρ.const, kL, kM, kK, kW, kG]) ⟨Below.refl _ _, rfl⟩) ?_
            refine .cons (fun ρ wz hρ hJ hb hd => by
              refine Eq.mpr (if_neg (by decide)) ?_
              have dd0 : ρ (.tmp 12) = (.bool true) := hd 0 _ rfl rfl
              exact step_move (.tmp 12) rfl ⟨Below.refl _ _, dd0⟩) ?_
            refine .cons (fun ρ wz hρ hJ hb hd => by
              refine Eq.mpr (if_neg (by decide)) ?_
              have dd0 : ρ (.tmp 2) = (.pointer (some ⟨w.heap.size, 0, none⟩)) := hb (2, _) (List.mem_of_getElem? (i := 2) rfl)
              exact step_val (v := (.pointer (some ⟨w.heap.size, 1, none⟩))) (w' := wz) (by simp [go_sem, execOp, dd0, hρ.const, kL, kM, kK, kW, kG]) ⟨Below.refl _ _, rfl⟩) ?_
            refine .cons (fun ρ wz hρ hJ hb hd => by
              refine Eq.mpr (if_neg (by decide)) ?_
              have dd0 : ρ (.tmp 14) = (.pointer (some ⟨w.heap.size, 1, none⟩)) := hd 0 _ rfl rfl
              have q := (unhide HX).below hJ
              have x0 := q.cell 0 _ rfl
              have x1 := q.cell 1 _ rfl
              exact step_val (v := (.int .i64 dq)) (w' := wz) (by simp [go_sem, execOp, dd0, x0, x1]) ⟨Below.refl _ _, rfl⟩) ?_
            refine .cons (fun ρ wz hρ hJ hb hd => by
              refine Eq.mpr (if_neg (by decide)) ?_
              have dd0 : ρ (.tmp 15) = (.int .i64 dq) := hd 0 _ rfl rfl
              exact step_val (v := (.bool true)) (w' := wz) (by simp [go_sem, execOp, dd0, hρ.const, kL, kM, kK, kW, kG]) ⟨Below.refl _ _, rfl⟩) ?_
            refine .cons (fun ρ wz hρ hJ hb hd => by
              refine Eq.mpr (if_neg (by decide)) ?_
              have dd0 : ρ (.tmp 13) = (.bool true) := hd 0 _ rfl rfl
              have dd1 : ρ (.tmp 16) = (.bool true) := hd 1 _ rfl rfl
              exact step_val (v := (.bool true)) (w' := wz) (by simp [go_sem, execOp, dd0, dd1, hρ.const, kL, kM, kK, kW, kG]) ⟨Below.refl _ _, rfl⟩) ?_
            refine .cons (fun ρ wz hρ hJ hb hd => by
              refine Eq.mpr (if_neg (by decide)) ?_
              have dd0 : ρ (.tmp 17) = (.bool true) := hd 0 _ rfl rfl
              exact step_move (.tmp 17) rfl ⟨Below.refl _ _, dd0⟩) ?_
            refine .cons (fun ρ wz hρ hJ hb hd => by
              refine Eq.mpr (if_neg (by decide)) ?_
              have dd0 : ρ (.tmp 1) = (.slice a n c) := hb (1, _) (List.mem_of_getElem? (i := 1) rfl)
              exact step_move (.tmp 1) rfl ⟨Below.refl _ _, dd0⟩) ?_
            refine .cons (fun ρ wz hρ hJ hb hd => by
              refine Eq.mpr (if_neg (by decide)) ?_
              have dd0 : ρ (.tmp 19) = (.slice a n c) := hd 0 _ rfl rfl
              refine step_func 32 _ _ #[.slice a n c] hρ rfl (enters_of Tryz.func32 (by kernel_rfl) rfl) (by simp [dd0]) ?_
              refine (unhide HC wz hJ).mono ?_
              rintro r W' ⟨rfl, hb2⟩
              exact ⟨_, rfl, hb2, rfl⟩) ?_
            refine .cons (fun ρ wz hρ hJ hb hd => by
              refine Eq.mpr (if_neg (by decide)) ?_
              have dd0 : ρ (.tmp 20) = (.int .i64 E) := hd 0 _ rfl rfl
              exact step_val (v := (.bool false)) (w' := wz) (by simp [go_sem, execOp, dd0, hρ.const, kL, kM, kK, kW, kG]) ⟨Below.refl _ _, rfl⟩) ?_
            refine .cons (fun ρ wz hρ hJ hb hd => by
              refine Eq.mpr (if_neg (by decide)) ?_
              have dd0 : ρ (.tmp 18) = (.bool true) := hd 0 _ rfl rfl
              have dd1 : ρ (.tmp 21) = (.bool false) := hd 1 _ rfl rfl
              exact step_val (v := (.bool false)) (w' := wz) (by simp [go_sem, execOp, dd0, dd1, hρ.const, kL, kM, kK, kW, kG]) ⟨Below.refl _ _, rfl⟩) ?_
            refine .cons (fun ρ wz hρ hJ hb hd => by
              refine Eq.mpr (if_neg (by decide)) ?_
              have dd0 : ρ (.tmp 22) = (.bool false) := hd 0 _ rfl rfl
              exact step_move (.tmp 22) rfl ⟨Below.refl _ _, dd0⟩) ?_
            refine .cons (fun ρ wz hρ hJ hb hd => Eq.mpr (if_pos (by decide)) rfl) ?_
            refine .cons (fun ρ wz hρ hJ hb hd => Eq.mpr (if_pos (by decide)) rfl) ?_
            refine .cons (fun ρ wz hρ hJ hb hd => Eq.mpr (if_pos (by decide)) rfl) ?_
            refine .cons (fun ρ wz hρ hJ hb hd => Eq.mpr (if_pos (by decide)) rfl) ?_
            refine .cons (fun ρ wz hρ hJ hb hd => Eq.mpr (if_pos (by decide)) rfl) ?_
            refine .cons (fun ρ wz hρ hJ hb hd => Eq.mpr (if_pos (by decide)) rfl) ?_
            refine .cons (fun ρ wz hρ hJ hb hd => Eq.mpr (if_pos (by decide)) rfl) ?_
            refine .cons (fun ρ wz hρ hJ hb hd => Eq.mpr (if_pos (by decide)) rfl) ?_
            refine .cons (fun ρ wz hρ hJ hb hd => by
              refine Eq.mpr (if_neg (by decide)) ?_
              have dd0 : ρ (.tmp 23) = (.bool false) := hd 0 _ rfl rfl
              have dd1 : ρ (.tmp 31) = undef := hd 1 _ rfl rfl
              exact step_val (v := (.bool false)) (w' := wz) (by simp [go_sem, execOp, dd0, dd1, hρ.const, kL, kM, kK, kW, kG]) ⟨Below.refl _ _, rfl⟩) ?_
            refine .cons (fun ρ wz hρ hJ hb hd => by
              refine Eq.mpr (if_neg (by decide)) ?_
              have dd0 : ρ (.tmp 32) = (.bool false) := hd 0 _ rfl rfl
              exact step_assign (.tmp 32) rfl ⟨Below.refl _ _, dd0⟩) (.nil _)
          case fin =>
            intro aQ WQ hsz2 hds hb hJ hv
            obtain rfl := frame_of (((0, (.agg #[.int .i64 ds, .int .i64 dq])) :: (1, (.slice a n c)) :: (2, (.pointer (some ⟨w.heap.size, 0, none⟩))) :: (3, undef) :: []) ++ ((5, (.pointer (some ⟨w.heap.size, 0, none⟩))) :: (6, (.int .i64 ds)) :: (7, (.bool true)) :: (8, (.bool true)) :: (9, (.pointer (some ⟨w.heap.size, 1, none⟩))) :: (10, (.int .i64 dq)) :: (11, (.bool true)) :: (12, (.bool true)) :: (13, (.bool true)) :: (14, (.pointer (some ⟨w.heap.size, 1, none⟩))) :: (15, (.int .i64 dq)) :: (16, (.bool true)) :: (17, (.bool true)) :: (18, (.bool true)) :: (19, (.slice a n c)) :: (20, (.int .i64 E)) :: (21, (.bool false)) :: (22, (.bool false)) :: (23, (.bool false)) :: (24, undef) :: (25, undef) :: (26, undef) :: (27, undef) :: (28, undef) :: (29, undef) :: (30, undef) :: (31, undef) :: (32, (.bool false)) :: (4, (.bool false)) :: [])) ((.agg #[.int .i64 ds, .int .i64 dq]) :: (.slice a n c) :: (.pointer (some ⟨w.heap.size, 0, none⟩)) :: undef :: (.bool false) :: (.pointer (some ⟨w.heap.size, 0, none⟩)) :: (.int .i64 ds) :: (.bool true) :: (.bool true) :: (.pointer (some ⟨w.heap.size, 1, none⟩)) :: (.int .i64 dq) :: (.bool true) :: (.bool true) :: (.bool true) :: (.pointer (some ⟨w.heap.size, 1, none⟩)) :: (.int .i64 dq) :: (.bool true) :: (.bool true) :: (.bool true) :: (.slice a n c) :: (.int .i64 E) :: (.bool false) :: (.bool false) :: (.bool false) :: undef :: undef :: undef :: undef :: undef :: undef :: undef :: undef :: (.bool false) :: []) hsz2 hds (fun p hp => by
              rcases List.mem_append.1 hp with h | h
              · exact hb p h
              · simp only [List.mem_cons, List.not_mem_nil, or_false] at h
                rcases h with rfl | rfl | rfl | rfl | rfl | rfl | rfl | rfl | rfl | rfl | rfl | rfl | rfl | rfl | rfl | rfl | rfl | rfl | rfl | rfl | rfl | rfl | rfl | rfl | rfl | rfl | rfl | rfl | rfl
                · exact hv 0 (by decide)
                · exact hv 1 (by decide)
                · exact hv 2 (by decide)
                · exact hv 3 (by decide)
                · exact hv 4 (by decide)
                · exact hv 5 (by decide)
                · exact hv 6 (by decide)
                · exact hv 7 (by decide)
                · exact hv 8 (by decide)
                · exact hv 9 (by decide)
                · exact hv 10 (by decide)
                · exact hv 11 (by decide)
                · exact hv 12 (by decide)
                · exact hv 13 (by decide)
                · exact hv 14 (by decide)
                · exact hv 15 (by decide)
                · exact hv 16 (by decide)
                · exact hv 17 (by decide)
                · exact hv 18 (by decide)
                · exact hv 19 (by decide)
                · exact hv 20 (by decide)
                · exact hv 21 (by decide)
                · exact hv 22 (by decide)
                · exact hv 23 (by decide)
                · exact hv 24 (by decide)
                · exact hv 25 (by decide)
                · exact hv 26 (by decide)
                · exact hv 27 (by decide)
                · exact hv 28 (by decide)) rfl
            clear hb hds hsz2 hv
            go_wp2
            go_ret
            exact ⟨rfl, bnext (unhide B0) hJ⟩
      · rw [decide_eq_false kM]
        simp only [Bool.false_and]
        have kK : True := trivial
        have kW : True := trivial
        have kG : True := trivial
        go_enter Tryz.func63, Tryz.ntmps63
        go_wp2
        refine wp_region_any (by kernel_rfl) ?_
        change wpAny _ _ _ _ _ _ _ (World.drew _)
        refine region_invG 33 (fun j => if j = 28 then 4 else 5 + j) ((0, (.agg #[.int .i64 ds, .int .i64 dq])) :: (1, (.slice a n c)) :: (2, (.pointer (some ⟨w.heap.size, 0, none⟩))) :: (3, undef) :: [])
          (fun W => Below X.heap.size X W)
          (valsOf [isV (.pointer (some ⟨w.heap.size, 0, none⟩)), isV (.int .i64 ds), isV (.bool true), isV (.bool true), isV (.pointer (some ⟨w.heap.size, 1, none⟩)), isV (.int .i64 dq), isV (.bool true), isV (.bool true), isV (.bool true), isV (.pointer (some ⟨w.heap.size, 1, none⟩)), isV (.int .i64 dq), isV (.bool false), isV (.bool false), isV (.bool false), isV undef, isV undef, isV undef, isV (.bool false), isV (.bool false), isV undef, isV undef, isV undef, isV undef, isV undef, isV undef, isV undef, isV undef, isV (.bool false), isV (.bool false)])
          (fun w w' => Below w.heap.size w w') ?fit (fun w1 w2 h hG => h.trans (hG.mono h.size)) (valsOf_stable ?stable) (fun p => match p with | (3, true) => true | (8, true) => true | (13, true) => false | (18, true) => false | _ => true) [(3, true), (8, true), (13, true), (18, true)] ?gs ?gv ?steps ?fin _ _ ?sz rfl ?base ?start
        case fit => kernel_rfl
        case sz => rfl
        case gs => kernel_rfl
        case gv => intro p hp w v hv; simp only [List.mem_cons, List.not_mem_nil, or_false] at hp; rcases hp with rfl | rfl | rfl | rfl <;> exact hv
        case base => intro p hp; repeat (first | (rcases List.mem_cons.1 hp with rfl | hp; · rfl) | cases hp)
        case stable => exact Stables.all (by repeat (first | exact .nil | refine .same ?_))
        case start => exact (Below.refl _ _).drew
        case steps =>
          refine .cons (fun ρ wz hρ hJ hb hd => by
            refine Eq.mpr (if_neg (by decide)) ?_
            have dd0 : ρ (.tmp 2) = (.pointer (some ⟨w.heap.size, 0, none⟩)) := hb (2, _) (List.mem_of_getElem? (i := 2) rfl)
            exact step_val (v := (.pointer (some ⟨w.heap.size, 0, none⟩))) (w' := wz) (by simp [go_sem, execOp, dd0, hρ.const, kL, kM, kK, kW, kG]) ⟨Below.refl _ _, rfl⟩) ?_
          refine .cons (fun ρ wz hρ hJ hb hd => by
            refine Eq.mpr (if_neg (by decide)) ?_
            have dd0 : ρ (.tmp 5) = (.pointer (some ⟨w.heap.size, 0, none⟩)) := hd 0 _ rfl rfl
            have q := (unhide HX).below hJ
            have x0 := q.cell 0 _ rfl
            have x1 := q.cell 1 _ rfl
            exact step_val (v := (.int .i64 ds)) (w' := wz) (by simp [go_sem, execOp, dd0, x0, x1]) ⟨Below.refl _ _, rfl⟩) ?_
          refine .cons (fun ρ wz hρ hJ hb hd => by
            refine Eq.mpr (if_neg (by decide)) ?_
            have dd0 : ρ (.tmp 6) = (.int .i64 ds) := hd 0 _ rfl rfl
            refine step_func 83 _ _ #[.int .i64 ds] hρ rfl (enters_of Tryz.func83 (by kernel_rfl) rfl) (by simp [dd0]) ?_
            refine (unhide HT wz).mono ?_
            rintro r W' ⟨rfl, rfl⟩
            exact ⟨_, rfl, Below.refl _ _, rfl⟩) ?_
          refine .cons (fun ρ wz hρ hJ hb hd => by
            refine Eq.mpr (if_neg (by decide)) ?_
            have dd0 : ρ (.tmp 7) = (.bool true) := hd 0 _ rfl rfl
            exact step_move (.tmp 7) rfl ⟨Below.refl _ _, dd0⟩) ?_
          refine .cons (fun ρ wz hρ hJ hb hd => by
            refine Eq.mpr (if_neg (by decide)) ?_
            have dd0 : ρ (.tmp 2) = (.pointer (some ⟨w.heap.size, 0, none⟩)) := hb (2, _) (List.mem_of_getElem? (i := 2) rfl)
            exact step_val (v := (.pointer (some ⟨w.heap.size, 1, none⟩))) (w' := wz) (by simp [go_sem, execOp, dd0, hρ.const, kL, kM, kK, kW, kG]) ⟨Below.refl _ _, rfl⟩) ?_
          refine .cons (fun ρ wz hρ hJ hb hd => by
            refine Eq.mpr (if_neg (by decide)) ?_
            have dd0 : ρ (.tmp 9) = (.pointer (some ⟨w.heap.size, 1, none⟩)) := hd 0 _ rfl rfl
            have q := (unhide HX).below hJ
            have x0 := q.cell 0 _ rfl
            have x1 := q.cell 1 _ rfl
            exact step_val (v := (.int .i64 dq)) (w' := wz) (by simp [go_sem, execOp, dd0, x0, x1]) ⟨Below.refl _ _, rfl⟩) ?_
          refine .cons (fun ρ wz hρ hJ hb hd => by
            refine Eq.mpr (if_neg (by decide)) ?_
            have dd0 : ρ (.tmp 10) = (.int .i64 dq) := hd 0 _ rfl rfl
            exact step_val (v := (.bool true)) (w' := wz) (by simp [go_sem, execOp, dd0, hρ.const, kL, kM, kK, kW, kG]) ⟨Below.refl _ _, rfl⟩) ?_
          refine .cons (fun ρ wz hρ hJ hb hd => by
            refine Eq.mpr (if_neg (by decide)) ?_
            have dd0 : ρ (.tmp 8) = (.bool true) := hd 0 _ rfl rfl
            have dd1 : ρ (.tmp 11) = (.bool true) := hd 1 _ rfl rfl
            exact step_val (v := (.bool true)) (w' := wz) (by simp [go_sem, execOp, dd0, dd1, hρ.const, kL, kM, kK, kW, kG]) ⟨Below.refl _ _, rfl⟩) ?_
          refine .cons (fun ρ wz hρ hJ hb hd => by
            refine Eq.mpr (if_neg (by decide)) ?_
            have dd0 : ρ (.tmp 12) = (.bool true) := hd 0 _ rfl rfl
            exact step_move (.tmp 12) rfl ⟨Below.refl _ _, dd0⟩) ?_
          refine .cons (fun ρ wz hρ hJ hb hd => by
            refine Eq.mpr (if_neg (by decide)) ?_
            have dd0 : ρ (.tmp 2) = (.pointer (some ⟨w.heap.size, 0, none⟩)) := hb (2, _) (List.mem_of_getElem? (i := 2) rfl)
            exact step_val (v := (.pointer (some ⟨w.heap.size, 1, none⟩))) (w' := wz) (by simp [go_sem, execOp, dd0, hρ.const, kL, kM, kK, kW, kG]) ⟨Below.refl _ _, rfl⟩) ?_
          refine .cons (fun ρ wz hρ hJ hb hd => by
            refine Eq.mpr (if_neg (by decide)) ?_
            have dd0 : ρ (.tmp 14) = (.pointer (some ⟨w.heap.size, 1, none⟩)) := hd 0 _ rfl rfl
            have q := (unhide HX).below hJ
            have x0 := q.cell 0 _ rfl
            have x1 := q.cell 1 _ rfl
            exact step_val (v := (.int .i64 dq)) (w' := wz) (by simp [go_sem, execOp, dd0, x0, x1]) ⟨Below.refl _ _, rfl⟩) ?_
          refine .cons (fun ρ wz hρ hJ hb hd => by
            refine Eq.mpr (if_neg (by decide)) ?_
            have dd0 : ρ (.tmp 15) = (.int .i64 dq) := hd 0 _ rfl rfl
            exact step_val (v := (.bool false)) (w' := wz) (by simp [go_sem, execOp, dd0, hρ.const, kL, kM, kK, kW, kG]) ⟨Below.refl _ _, rfl⟩) ?_
          refine .cons (fun ρ wz hρ hJ hb hd => by
            refine Eq.mpr (if_neg (by decide)) ?_
            have dd0 : ρ (.tmp 13) = (.bool true) := hd 0 _ rfl rfl
            have dd1 : ρ (.tmp 16) = (.bool false) := hd 1 _ rfl rfl
            exact step_val (v := (.bool false)) (w' := wz) (by simp [go_sem, execOp, dd0, dd1, hρ.const, kL, kM, kK, kW, kG]) ⟨Below.refl _ _, rfl⟩) ?_
          refine .cons (fun ρ wz hρ hJ hb hd => by
            refine Eq.mpr (if_neg (by decide)) ?_
            have dd0 : ρ (.tmp 17) = (.bool false) := hd 0 _ rfl rfl
            exact step_move (.tmp 17) rfl ⟨Below.refl _ _, dd0⟩) ?_
          refine .cons (fun ρ wz hρ hJ hb hd => Eq.mpr (if_pos (by decide)) rfl) ?_
          refine .cons (fun ρ wz hρ hJ hb hd => Eq.mpr (if_pos (by decide)) rfl) ?_
          refine .cons (fun ρ wz hρ hJ hb hd => Eq.mpr (if_pos (by decide)) rfl) ?_
          refine .cons (fun ρ wz hρ hJ hb hd => by
            refine Eq.mpr (if_neg (by decide)) ?_
            have dd0 : ρ (.tmp 18) = (.bool false) := hd 0 _ rfl rfl
            have dd1 : ρ (.tmp 21) = undef := hd 1 _ rfl rfl
            exact step_val (v := (.bool false)) (w' := wz) (by simp [go_sem, execOp, dd0, dd1, hρ.const, kL, kM, kK, kW, kG]) ⟨Below.refl _ _, rfl⟩) ?_
          refine .cons (fun ρ wz hρ hJ hb hd => by
            refine Eq.mpr (if_neg (by decide)) ?_
            have dd0 : ρ (.tmp 22) = (.bool false) := hd 0 _ rfl rfl
            exact step_move (.tmp 22) rfl ⟨Below.refl _ _, dd0⟩) ?_
          refine .cons (fun ρ wz hρ hJ hb hd => Eq.mpr (if_pos (by decide)) rfl) ?_
          refine .cons (fun ρ wz hρ hJ hb hd => Eq.mpr (if_pos (by decide)) rfl) ?_
          refine .cons (fun ρ wz hρ hJ hb hd => Eq.mpr (if_pos (by decide)) rfl) ?_
          refine .cons (fun ρ wz hρ hJ hb hd => Eq.mpr (if_pos (by decide)) rfl) ?_
          refine .cons (fun ρ wz hρ hJ hb hd => Eq.mpr (if_pos (by decide)) rfl) ?_
          refine .cons (fun ρ wz hρ hJ hb hd => Eq.mpr (if_pos (by decide)) rfl) ?_
          refine .cons (fun ρ wz hρ hJ hb hd => Eq.mpr (if_pos (by decide)) rfl) ?_
          refine .cons (fun ρ wz hρ hJ hb hd => Eq.mpr (if_pos (by decide)) rfl) ?_
          refine .cons (fun ρ wz hρ hJ hb hd => by
            refine Eq.mpr (if_neg (by decide)) ?_
            have dd0 : ρ (.tmp 23) = (.bool false) := hd 0 _ rfl rfl
            have dd1 : ρ (.tmp 31) = undef := hd 1 _ rfl rfl
            exact step_val (v := (.bool false)) (w' := wz) (by simp [go_sem, execOp, dd0, dd1, hρ.const, kL, kM, kK, kW, kG]) ⟨Below.refl _ _, rfl⟩) ?_
          refine .cons (fun ρ wz hρ hJ hb hd => by
            refine Eq.mpr (if_neg (by decide)) ?_
            have dd0 : ρ (.tmp 32) = (.bool false) := hd 0 _ rfl rfl
            exact step_assign (.tmp 32) rfl ⟨Below.refl _ _, dd0⟩) (.nil _)
        case fin =>
          intro aQ WQ hsz2 hds hb hJ hv
          obtain rfl := frame_of (((0, (.agg #[.int .i64 ds, .int .i64 dq])) :: (1, (.slice a n c)) :: (2, (.pointer (some ⟨w.heap.size, 0, none⟩))) :: (3, undef) :: []) ++ ((5, (.pointer (some ⟨w.heap.size, 0, none⟩))) :: (6, (.int .i64 ds)) :: (7, (.bool true)) :: (8, (.bool true)) :: (9, (.pointer (some ⟨w.heap.size, 1, none⟩))) :: (10, (.int .i64 dq)) :: (11, (.bool true)) :: (12, (.bool true)) :: (13, (.bool true)) :: (14, (.pointer (some ⟨w.heap.size, 1, none⟩))) :: (15, (.int .i64 dq)) :: (16, (.bool false)) :: (17, (.bool false)) :: (18, (.bool false)) :: (19, undef) :: (20, undef) :: (21, undef) :: (22, (.bool false)) :: (23, (.bool false)) :: (24, undef) :: (25, undef) :: (26, undef) :: (27, undef) :: (28, undef) :: (29, undef) :: (30, undef) :: (31, undef) :: (32, (.bool false)) :: (4, (.bool false)) :: [])) ((.agg #[.int .i64 ds, .int .i64 dq]) :: (.slice a n c) :: (.pointer (some ⟨w.heap.size, 0, none⟩)) :: undef :: (.bool false) :: (.pointer (some ⟨w.heap.size, 0, none⟩)) :: (.int .i64 ds) :: (.bool true) :: (.bool true) :: (.pointer (some ⟨w.heap.size, 1, none⟩)) :: (.int .i64 dq) :: (.bool true) :: (.bool true) :: (.bool true) :: (.pointer (some ⟨w.heap.size, 1, none⟩)) :: (.int .i64 dq) :: (.bool false) :: (.bool false) :: (.bool false) :: undef :: undef :: undef :: (.bool false) :: (.bool false) :: undef :: undef :: undef :: undef :: undef :: undef :: undef :: undef :: (.bool false) :: []) hsz2 hds (fun p hp => by
            rcases List.mem_append.1 hp with h | h
            · exact hb p h
            · simp only [List.mem_cons, List.not_mem_nil, or_false] at h
              rcases h with rfl | rfl | rfl | rfl | rfl | rfl | rfl | rfl | rfl | rfl | rfl | rfl | rfl | rfl | rfl | rfl | rfl | rfl | rfl | rfl | rfl | rfl | rfl | rfl | rfl | rfl | rfl | rfl | rfl
              · exact hv 0 (by decide)
              · exact hv 1 (by decide)
              · exact hv 2 (by decide)
              · exact hv 3 (by decide)
              · exact hv 4 (by decide)
              · exact hv 5 (by decide)
              · exact hv 6 (by decide)
              · exact hv 7 (by decide)
              · exact hv 8 (by decide)
              · exact hv 9 (by decide)
              · exact hv 10 (by decide)
              · exact hv 11 (by decide)
              · exact hv 12 (by decide)
              · exact hv 13 (by decide)
              · exact hv 14 (by decide)
              · exact hv 15 (by decide)
              · exact hv 16 (by decide)
              · exact hv 17 (by decide)
              · exact hv 18 (by decide)
              · exact hv 19 (by decide)
              · exact hv 20 (by decide)
              · exact hv 21 (by decide)
              · exact hv 22 (by decide)
              · exact hv 23 (by decide)
              · exact hv 24 (by decide)
              · exact hv 25 (by decide)
              · exact hv 26 (by decide)
              · exact hv 27 (by decide)
              · exact hv 28 (by decide)) rfl
          clear hb hds hsz2 hv
          go_wp2
          go_ret
          exact ⟨rfl, bnext (unhide B0) hJ⟩
    · rw [decide_eq_false kL]
      simp only [Bool.false_and]
      have kM : True := trivial
      have kK : True := trivial
      have kW : True := trivial
      have kG : True := trivial
      go_enter Tryz.func63, Tryz.ntmps63
      go_wp2
      refine wp_region_any (by kernel_rfl) ?_
      change wpAny _ _ _ _ _ _ _ (World.drew _)
      refine region_invG 33 (fun j => if j = 28 then 4 else 5 + j) ((0, (.agg #[.int .i64 ds, .int .i64 dq])) :: (1, (.slice a n c)) :: (2, (.pointer (some ⟨w.heap.size, 0, none⟩))) :: (3, undef) :: [])
        (fun W => Below X.heap.size X W)
        (valsOf [isV (.pointer (some ⟨w.heap.size, 0, none⟩)), isV (.int .i64 ds), isV (.bool true), isV (.bool true), isV (.pointer (some ⟨w.heap.size, 1, none⟩)), isV (.int .i64 dq), isV (.bool false), isV (.bool false), isV (.bool false), isV undef, isV undef, isV undef, isV (.bool false), isV (.bool false), isV undef, isV undef, isV undef, isV (.bool false), isV (.bool false), isV undef, isV undef, isV undef, isV undef, isV undef, isV undef, isV undef, isV undef, isV (.bool false), isV (.bool false)])
        (fun w w' => Below w.heap.size w w') ?fit (fun w1 w2 h hG => h.trans (hG.mono h.size)) (valsOf_stable ?stable) (fun p => match p with | (3, true) => true | (8, true) => false | (13, true) => false | (18, true) => false | _ => true) [(3, true), (8, true), (13, true), (18, true)] ?gs ?gv ?steps ?fin _ _ ?sz rfl ?base ?start
      case fit => kernel_rfl
      case sz => rfl
      case gs => kernel_rfl
      case gv => intro p hp w v hv; simp only [List.mem_cons, List.not_mem_nil, or_false] at hp; rcases hp with rfl | rfl | rfl | rfl <;> exact hv
      case base => intro p hp; repeat (first | (rcases List.mem_cons.1 hp with rfl | hp; · rfl) | cases hp)
      case stable => exact Stables.all (by repeat (first | exact .nil | refine .same ?_))
      case start => exact (Below.refl _ _).drew
      case steps =>
        refine .cons (fun ρ wz hρ hJ hb hd => by
          refine Eq.mpr (if_neg (by decide)) ?_
          have dd0 : ρ (.tmp 2) = (.pointer (some ⟨w.heap.size, 0, none⟩)) := hb (2, _) (List.mem_of_getElem? (i := 2) rfl)
          exact step_val (v := (.pointer (some ⟨w.heap.size, 0, none⟩))) (w' := wz) (by simp [go_sem, execOp, dd0, hρ.const, kL, kM, kK, kW, kG]) ⟨Below.refl _ _, rfl⟩) ?_
        refine .cons (fun ρ wz hρ hJ hb hd => by
          refine Eq.mpr (if_neg (by decide)) ?_
          have dd0 : ρ (.tmp 5) = (.pointer (some ⟨w.heap.size, 0, none⟩)) := hd 0 _ rfl rfl
          have q := (unhide HX).below hJ
          have x0 := q.cell 0 _ rfl
          have x1 := q.cell 1 _ rfl
          exact step_val (v := (.int .i64 ds)) (w' := wz) (by simp [go_sem, execOp, dd0, x0, x1]) ⟨Below.refl _ _, rfl⟩) ?_
        refine .cons (fun ρ wz hρ hJ hb hd => by
          refine Eq.mpr (if_neg (by decide)) ?_
          have dd0 : ρ (.tmp 6) = (.int .i64 ds) := hd 0 _ rfl rfl
          refine step_func 83 _ _ #[.int .i64 ds] hρ rfl (enters_of Tryz.func83 (by kernel_rfl) rfl) (by simp [dd0]) ?_
          refine (unhide HT wz).mono ?_
          rintro r W' ⟨rfl, rfl⟩
          exact ⟨_, rfl, Below.refl _ _, rfl⟩) ?_
        refine .cons (fun ρ wz hρ hJ hb hd => by
          refine Eq.mpr (if_neg (by decide)) ?_
          have dd0 : ρ (.tmp 7) = (.bool true) := hd 0 _ rfl rfl
          exact step_move (.tmp 7) rfl ⟨Below.refl _ _, dd0⟩) ?_
        refine .cons (fun ρ wz hρ hJ hb hd => by
          refine Eq.mpr (if_neg (by decide)) ?_
          have dd0 : ρ (.tmp 2) = (.pointer (some ⟨w.heap.size, 0, none⟩)) := hb (2, _) (List.mem_of_getElem? (i := 2) rfl)
          exact step_val (v := (.pointer (some ⟨w.heap.size, 1, none⟩))) (w' := wz) (by simp [go_sem, execOp, dd0, hρ.const, kL, kM, kK, kW, kG]) ⟨Below.refl _ _, rfl⟩) ?_
        refine .cons (fun ρ wz hρ hJ hb hd => by
          refine Eq.mpr (if_neg (by decide)) ?_
          have dd0 : ρ (.tmp 9) = (.pointer (some ⟨w.heap.size, 1, none⟩)) := hd 0 _ rfl rfl
          have q := (unhide HX).below hJ
          have x0 := q.cell 0 _ rfl
          have x1 := q.cell 1 _ rfl
          exact step_val (v := (.int .i64 dq)) (w' := wz) (by simp [go_sem, execOp, dd0, x0, x1]) ⟨Below.refl _ _, rfl⟩) ?_
        refine .cons (fun ρ wz hρ hJ hb hd => by
          refine Eq.mpr (if_neg (by decide)) ?_
          have dd0 : ρ (.tmp 10) = (.int .i64 dq) := hd 0 _ rfl rfl
          exact step_val (v := (.bool false)) (w' := wz) (by simp [go_sem, execOp, dd0, hρ.const, kL, kM, kK, kW, kG]) ⟨Below.refl _ _, rfl⟩) ?_
        refine .cons (fun ρ wz hρ hJ hb hd => by
          refine Eq.mpr (if_neg (by decide)) ?_
          have dd0 : ρ (.tmp 8) = (.bool true) := hd 0 _ rfl rfl
          have dd1 : ρ (.tmp 11) = (.bool false) := hd 1 _ rfl rfl
          exact step_val (v := (.bool false)) (w' := wz) (by simp [go_sem, execOp, dd0, dd1, hρ.const, kL, kM, kK, kW, kG]) ⟨Below.refl _ _, rfl⟩) ?_
        refine .cons (fun ρ wz hρ hJ hb hd => by
          refine Eq.mpr (if_neg (by decide)) ?_
          have dd0 : ρ (.tmp 12) = (.bool false) := hd 0 _ rfl rfl
          exact step_move (.tmp 12) rfl ⟨Below.refl _ _, dd0⟩) ?_
        refine .cons (fun ρ wz hρ hJ hb hd => Eq.mpr (if_pos (by decide)) rfl) ?_
        refine .cons (fun ρ wz hρ hJ hb hd => Eq.mpr (if_pos (by decide)) rfl) ?_
        refine .cons (fun ρ wz hρ hJ hb hd => Eq.mpr (if_pos (by decide)) rfl) ?_
        refine .cons (fun ρ wz hρ hJ hb hd => by
          refine Eq.mpr (if_neg (by decide)) ?_
          have dd0 : ρ (.tmp 13) = (.bool false) := hd 0 _ rfl rfl
          have dd1 : ρ (.tmp 16) = undef := hd 1 _ rfl rfl
          exact step_val (v := (.bool false)) (w' := wz) (by simp [go_sem, execOp, dd0, dd1, hρ.const, kL, kM, kK, kW, kG]) ⟨Below.refl _ _, rfl⟩) ?_
        refine .cons (fun ρ wz hρ hJ hb hd => by
          refine Eq.mpr (if_neg (by decide)) ?_
          have dd0 : ρ (.tmp 17) = (.bool false) := hd 0 _ rfl rfl
          exact step_move (.tmp 17) rfl ⟨Below.refl _ _, dd0⟩) ?_
        refine .cons (fun ρ wz hρ hJ hb hd => Eq.mpr (if_pos (by decide)) rfl) ?_
        refine .cons (fun ρ wz hρ hJ hb hd => Eq.mpr (if_pos (by decide)) rfl) ?_
        refine .cons (fun ρ wz hρ hJ hb hd => Eq.mpr (if_pos (by decide)) rfl) ?_
        refine .cons (fun ρ wz hρ hJ hb hd => by
          refine Eq.mpr (if_neg (by decide)) ?_
          have dd0 : ρ (.tmp 18) = (.bool false) := hd 0 _ rfl rfl
          have dd1 : ρ (.tmp 21) = undef := hd 1 _ rfl rfl
          exact step_val (v := (.bool false)) (w' := wz) (by simp [go_sem, execOp, dd0, dd1, hρ.const, kL, kM, kK, kW, kG]) ⟨Below.refl _ _, rfl⟩) ?_
        refine .cons (fun ρ wz hρ hJ hb hd => by
          refine Eq.mpr (if_neg (by decide)) ?_
          have dd0 : ρ (.tmp 22) = (.bool false) := hd 0 _ rfl rfl
          exact step_move (.tmp 22) rfl ⟨Below.refl _ _, dd0⟩) ?_
        refine .cons (fun ρ wz hρ hJ hb hd => Eq.mpr (if_pos (by decide)) rfl) ?_
        refine .cons (fun ρ wz hρ hJ hb hd => Eq.mpr (if_pos (by decide)) rfl) ?_
        refine .cons (fun ρ wz hρ hJ hb hd => Eq.mpr (if_pos (by decide)) rfl) ?_
        refine .cons (fun ρ wz hρ hJ hb hd => Eq.mpr (if_pos (by decide)) rfl) ?_
        refine .cons (fun ρ wz hρ hJ hb hd => Eq.mpr (if_pos (by decide)) rfl) ?_
        refine .cons (fun ρ wz hρ hJ hb hd => Eq.mpr (if_pos (by decide)) rfl) ?_
        refine .cons (fun ρ wz hρ hJ hb hd => Eq.mpr (if_pos (by decide)) rfl) ?_
        refine .cons (fun ρ wz hρ hJ hb hd => Eq.mpr (if_pos (by decide)) rfl) ?_
        refine .cons (fun ρ wz hρ hJ hb hd => by
          refine Eq.mpr (if_neg (by decide)) ?_
          have dd0 : ρ (.tmp 23) = (.bool false) := hd 0 _ rfl rfl
          have dd1 : ρ (.tmp 31) = undef := hd 1 _ rfl rfl
          exact step_val (v := (.bool false)) (w' := wz) (by simp [go_sem, execOp, dd0, dd1, hρ.const, kL, kM, kK, kW, kG]) ⟨Below.refl _ _, rfl⟩) ?_
        refine .cons (fun ρ wz hρ hJ hb hd => by
          refine Eq.mpr (if_neg (by decide)) ?_
          have dd0 : ρ (.tmp 32) = (.bool false) := hd 0 _ rfl rfl
          exact step_assign (.tmp 32) rfl ⟨Below.refl _ _, dd0⟩) (.nil _)
      case fin =>
        intro aQ WQ hsz2 hds hb hJ hv
        obtain rfl := frame_of (((0, (.agg #[.int .i64 ds, .int .i64 dq])) :: (1, (.slice a n c)) :: (2, (.pointer (some ⟨w.heap.size, 0, none⟩))) :: (3, undef) :: []) ++ ((5, (.pointer (some ⟨w.heap.size, 0, none⟩))) :: (6, (.int .i64 ds)) :: (7, (.bool true)) :: (8, (.bool true)) :: (9, (.pointer (some ⟨w.heap.size, 1, none⟩))) :: (10, (.int .i64 dq)) :: (11, (.bool false)) :: (12, (.bool false)) :: (13, (.bool false)) :: (14, undef) :: (15, undef) :: (16, undef) :: (17, (.bool false)) :: (18, (.bool false)) :: (19, undef) :: (20, undef) :: (21, undef) :: (22, (.bool false)) :: (23, (.bool false)) :: (24, undef) :: (25, undef) :: (26, undef) :: (27, undef) :: (28, undef) :: (29, undef) :: (30, undef) :: (31, undef) :: (32, (.bool false)) :: (4, (.bool false)) :: [])) ((.agg #[.int .i64 ds, .int .i64 dq]) :: (.slice a n c) :: (.pointer (some ⟨w.heap.size, 0, none⟩)) :: undef :: (.bool false) :: (.pointer (some ⟨w.heap.size, 0, none⟩)) :: (.int .i64 ds) :: (.bool true) :: (.bool true) :: (.pointer (some ⟨w.heap.size, 1, none⟩)) :: (.int .i64 dq) :: (.bool false) :: (.bool false) :: (.bool false) :: undef :: undef :: undef :: (.bool false) :: (.bool false) :: undef :: undef :: undef :: (.bool false) :: (.bool false) :: undef :: undef :: undef :: undef :: undef :: undef :: undef :: undef :: (.bool false) :: []) hsz2 hds (fun p hp => by
          rcases List.mem_append.1 hp with h | h
          · exact hb p h
          · simp only [List.mem_cons, List.not_mem_nil, or_false] at h
            rcases h with rfl | rfl | rfl | rfl | rfl | rfl | rfl | rfl | rfl | rfl | rfl | rfl | rfl | rfl | rfl | rfl | rfl | rfl | rfl | rfl | rfl | rfl | rfl | rfl | rfl | rfl | rfl | rfl | rfl
            · exact hv 0 (by decide)
            · exact hv 1 (by decide)
            · exact hv 2 (by decide)
            · exact hv 3 (by decide)
            · exact hv 4 (by decide)
            · exact hv 5 (by decide)
            · exact hv 6 (by decide)
            · exact hv 7 (by decide)
            · exact hv 8 (by decide)
            · exact hv 9 (by decide)
            · exact hv 10 (by decide)
            · exact hv 11 (by decide)
            · exact hv 12 (by decide)
            · exact hv 13 (by decide)
            · exact hv 14 (by decide)
            · exact hv 15 (by decide)
            · exact hv 16 (by decide)
            · exact hv 17 (by decide)
            · exact hv 18 (by decide)
            · exact hv 19 (by decide)
            · exact hv 20 (by decide)
            · exact hv 21 (by decide)
            · exact hv 22 (by decide)
            · exact hv 23 (by decide)
            · exact hv 24 (by decide)
            · exact hv 25 (by decide)
            · exact hv 26 (by decide)
            · exact hv 27 (by decide)
            · exact hv 28 (by decide)) rfl
        clear hb hds hsz2 hv
        go_wp2
        go_ret
        exact ⟨rfl, bnext (unhide B0) hJ⟩

end Go.Proofs.YtkkolefionbbcaaGreat
