/-
  Chapter 7's law VectorTells returns true for every two lists of Dots, every site and every Dot, and leaves its arguments as they were; no condition.
-/
import Derived.Test.YtmjhkgpbemjjkaaRows
import Derived.WalkKit
import Derived.ProofKit
import Derived.OpenShut
import Derived.ShutString
import Derived.ChangeOld
import Derived.Below
import Derived.Test.YtmjhkgpbemjjkaaZRM
import Derived.Test.YtmjhkgpbemjjkaaZU3
import Derived.Test.YtmjhkgpbemjjkaaZOp
import Derived.Test.YtmjhkgpbemjjkaaZRegG
import Derived.Deep.CutRange
set_option linter.unusedVariables false
set_option linter.unusedSimpArgs false
namespace Go.Proofs.Ytmjhkgpbemjjkaa
namespace LVectorTells
open Go.ChangeShapes Go.WideShapes Go.ChangeAt Go.RowKit Go.Lib
open Go.ChangeMaps (open_string shut_string)

theorem hide_drew {W W' : World} {k : Nat} (h : W' = W.drewN k) : Below W.heap.size W W' := by rw [h]; exact bdrew (Below.refl _ _) k
theorem addV_len (l : List (Int × Int)) (d : Int × Int) : (addV l d).1.length ≤ 17 := by
  unfold addV
  split
  · simp
  · split
    · simp
    · split
      · simp
      · exact vec_len _

set_option maxRecDepth 100000 in
set_option maxHeartbeats 20000000 in
theorem walk (a0 : Option Addr) (len0 cap0 : Nat) (z0 : List (Int × Int)) (a1 : Option Addr) (len1 cap1 : Nat) (z1 : List (Int × Int)) (site d0 d1 : Int) (w : World) (w0 : RI w (.slice a0 len0 cap0) z0 ∧ z0.length = len0 ∧ len0 ≤ maxLen ∧ ∀ e ∈ z0, idIn e) (w1 : RI w (.slice a1 len1 cap1) z1 ∧ z1.length = len1 ∧ len1 ≤ maxLen ∧ ∀ e ∈ z1, idIn e) (w2 : (Lit.int .i64 site).wf = true) (w3 : idIn (d0, d1)) :
    Calls Try.prog 3 #[.slice a0 len0 cap0, .slice a1 len1 cap1, .int .i64 site, .agg #[.int .i64 d0, .int .i64 d1]] w fun e W => e = .returned (.bool true) ∧ Below w.heap.size w W := by
  obtain ⟨r0, e0, _, _⟩ := w0
  obtain ⟨r1, e1, _, _⟩ := w1
  have hd1 : d1 ≤ 9223372036854775807 := w3.2.2
  clear w2 w3
  obtain ⟨X, hX⟩ : ∃ X, w.alloc (.cells #[.int .i64 d0, .int .i64 d1] 25) = X := ⟨_, rfl⟩
  have BX : Below w.heap.size w X := by rw [← hX]; exact ballc (Below.refl _ _) _
  have XD : Bx X w.heap.size 25 #[.int .i64 d0, .int .i64 d1] := by rw [← hX]; exact Bx.new w _ _
  have K := hide (known_in X)
  have Ra := hide (r0.below BX)
  have Rb := hide (r1.below BX)
  replace BX := hide BX
  by_cases h0 : 4000 < len0
  · have h0' : (4000 : Int) < (len0 : Int) := by omega
    clear e0 e1
    go_enter Try.func3, Try.ntmps3
    go_wp2_with (go_at_call 9; refine (unhide K).mono ?_; rintro e W3 ⟨rfl, hb⟩; replace hb := hide hb)
    go_ret
    exact ⟨rfl, bnext (unhide BX) (unhide hb)⟩
  by_cases h1 : 4000 < len1
  · have h0' : ¬ (4000 : Int) < (len0 : Int) := by omega
    have h1' : (4000 : Int) < (len1 : Int) := by omega
    clear e0 e1
    go_enter Try.func3, Try.ntmps3
    go_wp2_with (go_at_call 9; refine (unhide K).mono ?_; rintro e W3 ⟨rfl, hb⟩; replace hb := hide hb)
    go_ret
    exact ⟨rfl, bnext (unhide BX) (unhide hb)⟩
  have h0' : ¬ (4000 : Int) < (len0 : Int) := by omega
  have h1' : ¬ (4000 : Int) < (len1 : Int) := by omega
  have s0 : z0.length ≤ 4000 := by omega
  have s1 : z1.length ≤ 4000 := by omega
  have l0 : z0.length ≤ 140737488355328 := by omega
  have l1 : z1.length ≤ 140737488355328 := by omega
  replace XD := hide XD
  clear r0 r1 K h0 h1
  have E0 := hide e0
  have E1 := hide e1
  clear e0 e1
  go_enter Try.func3, Try.ntmps3
  have K := hide (room_in _ z0 X (unhide Ra) s0)
  go_wp2_with fail
  refine (unhide K).mono ?_
  rintro e W1 ⟨ax, cx, rfl, rx, hb⟩
  have Rx := hide rx
  have Bx0 := hide (unhide BX).size
  clear rx
  replace Ra := hide ((unhide Ra).below hb)
  replace Rb := hide ((unhide Rb).below hb)
  replace XD := hide ((unhide XD).below hb)
  replace BX := hide (bnext (unhide BX) hb)
  clear K hb
  rw [unhide E0]
  clear hX
  have K := hide (room_in _ z1 W1 (unhide Rb) s1)
  go_wp2_with fail
  refine (unhide K).mono ?_
  rintro e W2 ⟨ay, cy, rfl, ry, hb⟩
  have Ry := hide ry
  clear ry
  replace Ra := hide ((unhide Ra).below hb)
  replace Rb := hide ((unhide Rb).below hb)
  replace Rx := hide ((unhide Rx).below hb)
  replace XD := hide ((unhide XD).below hb)
  replace BX := hide (bnext (unhide BX) hb)
  clear K hb
  rw [unhide E1]
  clear h0' h1'
  have rowx : ∀ W', Rm W' X.heap.size ax cx z0 → RI W' (.slice ax len0 cx) z0 := fun W' h => by have := h.row; rw [unhide E0] at this; exact this
  have rowy : ∀ W', Rm W' W1.heap.size ay cy z1 → RI W' (.slice ay len1 cy) z1 := fun W' h => by have := h.row; rw [unhide E1] at this; exact this
  replace rowx := hide rowx
  replace rowy := hide rowy
  obtain ⟨A, hA⟩ : ∃ A, addV z0 (d0, d1) = A := ⟨_, rfl⟩
  obtain ⟨al, ae⟩ := A
  have hal : al.length ≤ 140737488355328 := by have := addV_len z0 (d0, d1); rw [hA] at this; simp only at this; omega
  replace hA := hide hA
  obtain ⟨an, han⟩ : ∃ an, al.length = an := ⟨_, rfl⟩
  replace han := hide han
  have y0 := (unhide XD).cell 0 _ rfl
  have y1 := (unhide XD).cell 1 _ rfl
  have yl := (unhide XD).lt
  have K := hide (Add_in _ z0 d0 d1 W2 (unhide rowx _ (unhide Rx)) l0 hd1)
  rw [unhide hA] at K
  go_wp2_with fail
  refine (unhide K).mono ?_
  rintro e W3 ⟨vc, rfl, oc, hb⟩
  clear y0 y1 yl
  obtain ⟨ac, cc, hvc⟩ := oc.form
  rw [unhide han] at hvc
  subst hvc
  have Rc := hide oc.row
  clear oc
  replace Ra := hide ((unhide Ra).below hb)
  replace Rb := hide ((unhide Rb).below hb)
  replace Rx := hide ((unhide Rx).below hb)
  replace Ry := hide ((unhide Ry).below hb)
  replace XD := hide ((unhide XD).below hb)
  replace BX := hide (bnext (unhide BX) hb)
  clear K hb
  have y0 := (unhide XD).cell 0 _ rfl
  have y1 := (unhide XD).cell 1 _ rfl
  have yl := (unhide XD).lt
  have K := hide (refAdd_in _ z0 d0 d1 W3 (unhide Ra) l0 hd1)
  rw [unhide hA] at K
  go_wp2_with fail
  refine (unhide K).mono ?_
  rintro e W4 ⟨vw, rfl, ow, hb⟩
  clear y0 y1 yl
  obtain ⟨aw, cw, hvw⟩ := ow.form
  rw [unhide han] at hvw
  subst hvw
  have Rw := hide ow.row
  clear ow
  replace Ra := hide ((unhide Ra).below hb)
  replace Rb := hide ((unhide Rb).below hb)
  replace Rx := hide ((unhide Rx).below hb)
  replace Ry := hide ((unhide Ry).below hb)
  replace Rc := hide ((unhide Rc).below hb)
  replace XD := hide ((unhide XD).below hb)
  replace BX := hide (bnext (unhide BX) hb)
  clear K hb
  have C0 : ∀ W', Below W4.heap.size W4 W' → W'.cell? ⟨w.heap.size, 0, none⟩ = some (.int .i64 d0) ∧ W'.cell? ⟨w.heap.size, 1, none⟩ = some (.int .i64 d1) := fun W' hb => ⟨((unhide XD).below hb).cell 0 _ rfl, ((unhide XD).below hb).cell 1 _ rfl⟩
  replace C0 := hide C0
  obtain ⟨kC, hkC⟩ : ∃ x, chk z0 = x := ⟨_, rfl⟩
  obtain ⟨kG, hkG⟩ : ∃ x, getV z0 site = x := ⟨_, rfl⟩
  obtain ⟨kH, hkH⟩ : ∃ x, hasV z0 (d0, d1) = x := ⟨_, rfl⟩
  obtain ⟨kS, hkS⟩ : ∃ x, sum (sy z0) = x := ⟨_, rfl⟩
  have P1 := hide (fun (W' : World) (hb : Below W4.heap.size W4 W') => Check_in _ z0 W' (unhide rowx _ ((unhide Rx).below hb)) l0)
  rw [hkC] at P1
  have P2 := hide (fun (W' : World) (hb : Below W4.heap.size W4 W') => refCheck_in _ z0 W' ((unhide Ra).below hb) l0)
  rw [hkC] at P2
  have P3 := hide (fun (W' : World) (hb : Below W4.heap.size W4 W') => Get_in _ z0 site W' (unhide rowx _ ((unhide Rx).below hb)) l0)
  rw [hkG] at P3
  have P4 := hide (fun (W' : World) (hb : Below W4.heap.size W4 W') => refGet_in _ z0 site W' ((unhide Ra).below hb) l0)
  rw [hkG] at P4
  have P5 := hide (fun (W' : World) (hb : Below W4.heap.size W4 W') => Has_in _ z0 d0 d1 W' (unhide rowx _ ((unhide Rx).below hb)) l0)
  rw [hkH] at P5
  have P6 := hide (fun (W' : World) (hb : Below W4.heap.size W4 W') => refHas_in _ z0 d0 d1 W' ((unhide Ra).below hb) l0)
  rw [hkH] at P6
  have P7 := hide (fun (W' : World) (hb : Below W4.heap.size W4 W') => Sum_in _ z0 W' (unhide rowx _ ((unhide Rx).below hb)) l0)
  rw [hkS] at P7
  have P8 := hide (fun (W' : World) (hb : Below W4.heap.size W4 W') => refSum_in _ z0 W' ((unhide Ra).below hb) l0)
  rw [hkS] at P8
  have P9 := hide (fun (W' : World) (hb : Below W4.heap.size W4 W') => Same_in al al _ _ W' ((unhide Rc).below hb) ((unhide Rw).below hb) hal hal)
  clear hkC hkG hkH hkS
  go_upto_region 7 with fail
  go_cut [80] from 40 to 80 (fun v wx => v = .bool false ∧ Hid (RI wx (.slice a0 len0 cap0) z0) ∧ Hid (RI wx (.slice a1 len1 cap1) z1) ∧ Hid (Rm wx X.heap.size ax cx z0) ∧ Hid (Rm wx W1.heap.size ay cy z1) ∧ Hid (Below w.heap.size w wx))
  case first =>
    refine wp_region_any (by kernel_rfl) ?_
    change wpAny _ _ _ _ _ _ _ (World.drew _)
    refine region_invG 128 (fun j => 40 + j) ((0, (Value.slice a0 len0 cap0)) :: (1, (Value.slice a1 len1 cap1)) :: (2, (Value.int IntKind.i64 site)) :: (3, (Value.agg #[Value.int IntKind.i64 d0, Value.int IntKind.i64 d1])) :: (4, undef) :: (5, undef) :: (6, undef) :: (7, (Value.pointer (some { block := w.heap.size, off := 0 }))) :: (8, (Value.bool false)) :: (9, (Value.slice ax len0 cx)) :: (10, (Value.slice ay len1 cy)) :: (11, (Value.slice ac an cc)) :: (12, (Value.int IntKind.i64 ae)) :: (13, (Value.slice aw an cw)) :: (14, (Value.int IntKind.i64 ae)) :: (15, (Value.slice a0 len0 cap0)) :: (16, (Value.int IntKind.i64 (len0 : Int))) :: (17, (Value.bool false)) :: (18, (Value.bool false)) :: (19, (Value.slice a1 len1 cap1)) :: (20, (Value.int IntKind.i64 (len1 : Int))) :: (21, (Value.bool false)) :: (22, (Value.bool false)) :: (23, undef) :: (24, (Value.slice a0 len0 cap0)) :: (25, (Value.slice ax len0 cx)) :: (26, (Value.slice a1 len1 cap1)) :: (27, (Value.slice ay len1 cy)) :: (28, (Value.tuple #[Value.slice ac an cc, Value.int IntKind.i64 ae])) :: (29, (Value.slice ax len0 cx)) :: (30, (Value.agg #[Value.int IntKind.i64 d0, Value.int IntKind.i64 d1])) :: (31, (Value.tuple #[Value.slice ac an cc, Value.int IntKind.i64 ae])) :: (32, (Value.slice ac an cc)) :: (33, (Value.int IntKind.i64 ae)) :: (34, (Value.tuple #[Value.slice aw an cw, Value.int IntKind.i64 ae])) :: (35, (Value.slice a0 len0 cap0)) :: (36, (Value.agg #[Value.int IntKind.i64 d0, Value.int IntKind.i64 d1])) :: (37, (Value.tuple #[Value.slice aw an cw, Value.int IntKind.i64 ae])) :: (38, (Value.slice aw an cw)) :: (39, (Value.int IntKind.i64 ae)) :: (81, undef) :: (82, undef) :: (83, undef) :: (84, undef) :: (85, undef) :: (86, undef) :: (87, undef) :: (88, undef) :: (89, undef) :: (90, undef) :: (91, undef) :: (92, undef) :: (93, undef) :: (94, undef) :: (95, undef) :: (96, undef) :: (97, undef) :: (98, undef) :: (99, undef) :: (100, undef) :: (101, undef) :: (102, undef) :: (103, undef) :: (104, undef) :: (105, undef) :: (106, undef) :: (107, undef) :: (108, undef) :: (109, undef) :: (110, undef) :: (111, undef) :: (112, undef) :: (113, undef) :: (114, undef) :: (115, undef) :: (116, undef) :: (117, undef) :: (118, undef) :: (119, undef) :: (120, undef) :: (121, undef) :: (122, undef) :: (123, undef) :: (124, undef) :: (125, undef) :: (126, undef) :: (127, undef) :: [])
      (fun W => Below W4.heap.size W4 W)
      (valsOf [isV (Value.slice ax len0 cx), isV (.int .i64 kC), isV (Value.slice a0 len0 cap0), isV (.int .i64 kC), isV (.bool false), isV (.bool false), isV (Value.slice ax len0 cx), isV (Value.int IntKind.i64 site), isV (.int .i64 kG), isV (Value.slice a0 len0 cap0), isV (Value.int IntKind.i64 site), isV (.int .i64 kG), isV (.bool false), isV (.bool false), isV (.bool false), isV (Value.slice ax len0 cx), isV (.agg #[.int .i64 d0, .int .i64 d1]), isV (.bool kH), isV (Value.slice a0 len0 cap0), isV (.agg #[.int .i64 d0, .int .i64 d1]), isV (.bool kH), isV (.bool false), isV (.bool false), isV (.bool false), isV (Value.slice ax len0 cx), isV (.int .i64 kS), isV (Value.slice a0 len0 cap0), isV (.int .i64 kS), isV (.bool false), isV (.bool false), isV (.bool false), isV (Value.int IntKind.i64 ae), isV (Value.int IntKind.i64 ae), isV (.bool false), isV (.bool false), isV (.bool false), isV (Value.slice ac an cc), isV (Value.slice aw an cw), isV (.bool true), isV (.bool false), isV (.bool false)])
      (fun w w' => Below w.heap.size w w') ?fit (fun w1 w2 h hG => h.trans (hG.mono h.size)) (valsOf_stable ?stable) (fun _ => true) [(5, false), (14, false), (23, false), (30, false), (35, false)] ?gs ?gv ?steps ?fin _ _ ?sz rfl ?base ?start
    case fit => kernel_rfl
    case sz => rfl
    case gs => kernel_rfl
    case gv => intro p hp w v hv; simp only [List.mem_cons, List.not_mem_nil, or_false] at hp; rcases hp with rfl | rfl | rfl | rfl | rfl <;> exact hv
    case base => intro p hp; repeat (first | (rcases List.mem_cons.1 hp with rfl | hp; · rfl) | cases hp)
    case stable => exact Stables.all (by repeat (first | exact .nil | refine .same ?_))
    case start => exact (Below.refl _ _).drew
    case steps =>
      refine .cons (fun ρ wz hρ hJ hb hd => by
        refine Eq.mpr (if_neg (by decide)) ?_
        have dd0 : ρ (.tmp 9) = (Value.slice ax len0 cx) := hb (9, _) (List.mem_of_getElem? (i := 9) rfl)
        exact step_move (.tmp 9) rfl ⟨Below.refl _ _, dd0⟩) ?_
      refine .cons (fun ρ wz hρ hJ hb hd => by
        refine Eq.mpr (if_neg (by decide)) ?_
        have dd0 : ρ (.tmp 40) = (Value.slice ax len0 cx) := hd 0 _ rfl rfl
        refine step_func 13 _ _ #[Value.slice ax len0 cx] hρ rfl (enters_of Try.func13 (by kernel_rfl) rfl) (by simp [dd0]) ?_
        refine (unhide P1 wz hJ).mono ?_
        rintro r W' ⟨rfl, hb2⟩
        exact ⟨_, rfl, hb2, rfl⟩) ?_
      refine .cons (fun ρ wz hρ hJ hb hd => by
        refine Eq.mpr (if_neg (by decide)) ?_
        have dd0 : ρ (.tmp 0) = (Value.slice a0 len0 cap0) := hb (0, _) (List.mem_of_getElem? (i := 0) rfl)
        exact step_move (.tmp 0) rfl ⟨Below.refl _ _, dd0⟩) ?_
      refine .cons (fun ρ wz hρ hJ hb hd => by
        refine Eq.mpr (if_neg (by decide)) ?_
        have dd0 : ρ (.tmp 42) = (Value.slice a0 len0 cap0) := hd 0 _ rfl rfl
        refine step_func 14 _ _ #[Value.slice a0 len0 cap0] hρ rfl (enters_of Try.func14 (by kernel_rfl) rfl) (by simp [dd0]) ?_
        refine (unhide P2 wz hJ).mono ?_
        rintro r W' ⟨rfl, hb2⟩
        exact ⟨_, rfl, hb2, rfl⟩) ?_
      refine .cons (fun ρ wz hρ hJ hb hd => by
        refine Eq.mpr (if_neg (by decide)) ?_
        have dd0 : ρ (.tmp 41) = (.int .i64 kC) := hd 0 _ rfl rfl
        have dd1 : ρ (.tmp 43) = (.int .i64 kC) := hd 1 _ rfl rfl
        exact step_val (v := (.bool false)) (w' := wz) (by simp [go_sem, execOp, dd0, dd1, hρ.const]) ⟨Below.refl _ _, rfl⟩) ?_
      refine .cons (fun ρ wz hρ hJ hb hd => by
        refine Eq.mpr (if_neg (by decide)) ?_
        have dd0 : ρ (.tmp 44) = (.bool false) := hd 0 _ rfl rfl
        exact step_move (.tmp 44) rfl ⟨Below.refl _ _, dd0⟩) ?_
      refine .cons (fun ρ wz hρ hJ hb hd => by
        refine Eq.mpr (if_neg (by decide)) ?_
        have dd0 : ρ (.tmp 9) = (Value.slice ax len0 cx) := hb (9, _) (List.mem_of_getElem? (i := 9) rfl)
        exact step_move (.tmp 9) rfl ⟨Below.refl _ _, dd0⟩) ?_
      refine .cons (fun ρ wz hρ hJ hb hd => by
        refine Eq.mpr (if_neg (by decide)) ?_
        have dd0 : ρ (.tmp 2) = (Value.int IntKind.i64 site) := hb (2, _) (List.mem_of_getElem? (i := 2) rfl)
        exact step_move (.tmp 2) rfl ⟨Below.refl _ _, dd0⟩) ?_
      refine .cons (fun ρ wz hρ hJ hb hd => by
        refine Eq.mpr (if_neg (by decide)) ?_
        have dd0 : ρ (.tmp 46) = (Value.slice ax len0 cx) := hd 0 _ rfl rfl
        have dd1 : ρ (.tmp 47) = (Value.int IntKind.i64 site) := hd 1 _ rfl rfl
        refine step_func 15 _ _ #[Value.slice ax len0 cx, .int .i64 site] hρ rfl (enters_of Try.func15 (by kernel_rfl) rfl) (by simp [dd0, dd1]) ?_
        refine (unhide P3 wz hJ).mono ?_
        rintro r W' ⟨rfl, hb2⟩
        exact ⟨_, rfl, hb2, rfl⟩) ?_
      refine .cons (fun ρ wz hρ hJ hb hd => by
        refine Eq.mpr (if_neg (by decide)) ?_
        have dd0 : ρ (.tmp 0) = (Value.slice a0 len0 cap0) := hb (0, _) (List.mem_of_getElem? (i := 0) rfl)
        exact step_move (.tmp 0) rfl ⟨Below.refl _ _, dd0⟩) ?_
      refine .cons (fun ρ wz hρ hJ hb hd => by
        refine Eq.mpr (if_neg (by decide)) ?_
        have dd0 : ρ (.tmp 2) = (Value.int IntKind.i64 site) := hb (2, _) (List.mem_of_getElem? (i := 2) rfl)
        exact step_move (.tmp 2) rfl ⟨Below.refl _ _, dd0⟩) ?_
      refine .cons (fun ρ wz hρ hJ hb hd => by
        refine Eq.mpr (if_neg (by decide)) ?_
        have dd0 : ρ (.tmp 49) = (Value.slice a0 len0 cap0) := hd 0 _ rfl rfl
        have dd1 : ρ (.tmp 50) = (Value.int IntKind.i64 site) := hd 1 _ rfl rfl
        refine step_func 16 _ _ #[Value.slice a0 len0 cap0, .int .i64 site] hρ rfl (enters_of Try.func16 (by kernel_rfl) rfl) (by simp [dd0, dd1]) ?_
        refine (unhide P4 wz hJ).mono ?_
        rintro r W' ⟨rfl, hb2⟩
        exact ⟨_, rfl, hb2, rfl⟩) ?_
      refine .cons (fun ρ wz hρ hJ hb hd => by
        refine Eq.mpr (if_neg (by decide)) ?_
        have dd0 : ρ (.tmp 48) = (.int .i64 kG) := hd 0 _ rfl rfl
        have dd1 : ρ (.tmp 51) = (.int .i64 kG) := hd 1 _ rfl rfl
        exact step_val (v := (.bool false)) (w' := wz) (by simp [go_sem, execOp, dd0, dd1, hρ.const]) ⟨Below.refl _ _, rfl⟩) ?_
      refine .cons (fun ρ wz hρ hJ hb hd => by
        refine Eq.mpr (if_neg (by decide)) ?_
        have dd0 : ρ (.tmp 45) = (.bool false) := hd 0 _ rfl rfl
        have dd1 : ρ (.tmp 52) = (.bool false) := hd 1 _ rfl rfl
        exact step_val (v := (.bool false)) (w' := wz) (by simp [go_sem, execOp, dd0, dd1, hρ.const]) ⟨Below.refl _ _, rfl⟩) ?_
      refine .cons (fun ρ wz hρ hJ hb hd => by
        refine Eq.mpr (if_neg (by decide)) ?_
        have dd0 : ρ (.tmp 53) = (.bool false) := hd 0 _ rfl rfl
        exact step_move (.tmp 53) rfl ⟨Below.refl _ _, dd0⟩) ?_
      refine .cons (fun ρ wz hρ hJ hb hd => by
        refine Eq.mpr (if_neg (by decide)) ?_
        have dd0 : ρ (.tmp 9) = (Value.slice ax len0 cx) := hb (9, _) (List.mem_of_getElem? (i := 9) rfl)
        exact step_move (.tmp 9) rfl ⟨Below.refl _ _, dd0⟩) ?_
      refine .cons (fun ρ wz hρ hJ hb hd => by
        refine Eq.mpr (if_neg (by decide)) ?_
        have dd0 : ρ (.tmp 7) = (Value.pointer (some { block := w.heap.size, off := 0 })) := hb (7, _) (List.mem_of_getElem? (i := 7) rfl)
        obtain ⟨u0, u1⟩ := unhide C0 wz hJ
        exact step_val (v := (.agg #[.int .i64 d0, .int .i64 d1])) (w' := wz) (by simp [go_sem, execOp, dd0, u0, u1]) ⟨Below.refl _ _, rfl⟩) ?_
      refine .cons (fun ρ wz hρ hJ hb hd => by
        refine Eq.mpr (if_neg (by decide)) ?_
        have dd0 : ρ (.tmp 55) = (Value.slice ax len0 cx) := hd 0 _ rfl rfl
        have dd1 : ρ (.tmp 56) = (.agg #[.int .i64 d0, .int .i64 d1]) := hd 1 _ rfl rfl
        refine step_func 17 _ _ #[Value.slice ax len0 cx, .agg #[.int .i64 d0, .int .i64 d1]] hρ rfl (enters_of Try.func17 (by kernel_rfl) rfl) (by simp [dd0, dd1]) ?_
        refine (unhide P5 wz hJ).mono ?_
        rintro r W' ⟨rfl, hb2⟩
        exact ⟨_, rfl, hb2, rfl⟩) ?_
      refine .cons (fun ρ wz hρ hJ hb hd => by
        refine Eq.mpr (if_neg (by decide)) ?_
        have dd0 : ρ (.tmp 0) = (Value.slice a0 len0 cap0) := hb (0, _) (List.mem_of_getElem? (i := 0) rfl)
        exact step_move (.tmp 0) rfl ⟨Below.refl _ _, dd0⟩) ?_
      refine .cons (fun ρ wz hρ hJ hb hd => by
        refine Eq.mpr (if_neg (by decide)) ?_
        have dd0 : ρ (.tmp 7) = (Value.pointer (some { block := w.heap.size, off := 0 })) := hb (7, _) (List.mem_of_getElem? (i := 7) rfl)
        obtain ⟨u0, u1⟩ := unhide C0 wz hJ
        exact step_val (v := (.agg #[.int .i64 d0, .int .i64 d1])) (w' := wz) (by simp [go_sem, execOp, dd0, u0, u1]) ⟨Below.refl _ _, rfl⟩) ?_
      refine .cons (fun ρ wz hρ hJ hb hd => by
        refine Eq.mpr (if_neg (by decide)) ?_
        have dd0 : ρ (.tmp 58) = (Value.slice a0 len0 cap0) := hd 0 _ rfl rfl
        have dd1 : ρ (.tmp 59) = (.agg #[.int .i64 d0, .int .i64 d1]) := hd 1 _ rfl rfl
        refine step_func 18 _ _ #[Value.slice a0 len0 cap0, .agg #[.int .i64 d0, .int .i64 d1]] hρ rfl (enters_of Try.func18 (by kernel_rfl) rfl) (by simp [dd0, dd1]) ?_
        refine (unhide P6 wz hJ).mono ?_
        rintro r W' ⟨rfl, hb2⟩
        exact ⟨_, rfl, hb2, rfl⟩) ?_
      refine .cons (fun ρ wz hρ hJ hb hd => by
        refine Eq.mpr (if_neg (by decide)) ?_
        have dd0 : ρ (.tmp 57) = (.bool kH) := hd 0 _ rfl rfl
        have dd1 : ρ (.tmp 60) = (.bool kH) := hd 1 _ rfl rfl
        exact step_val (v := (.bool false)) (w' := wz) (by simp [go_sem, execOp, dd0, dd1, hρ.const]) ⟨Below.refl _ _, rfl⟩) ?_
      refine .cons (fun ρ wz hρ hJ hb hd => by
        refine Eq.mpr (if_neg (by decide)) ?_
        have dd0 : ρ (.tmp 54) = (.bool false) := hd 0 _ rfl rfl
        have dd1 : ρ (.tmp 61) = (.bool false) := hd 1 _ rfl rfl
        exact step_val (v := (.bool false)) (w' := wz) (by simp [go_sem, execOp, dd0, dd1, hρ.const]) ⟨Below.refl _ _, rfl⟩) ?_
      refine .cons (fun ρ wz hρ hJ hb hd => by
        refine Eq.mpr (if_neg (by decide)) ?_
        have dd0 : ρ (.tmp 62) = (.bool false) := hd 0 _ rfl rfl
        exact step_move (.tmp 62) rfl ⟨Below.refl _ _, dd0⟩) ?_
      refine .cons (fun ρ wz hρ hJ hb hd => by
        refine Eq.mpr (if_neg (by decide)) ?_
        have dd0 : ρ (.tmp 9) = (Value.slice ax len0 cx) := hb (9, _) (List.mem_of_getElem? (i := 9) rfl)
        exact step_move (.tmp 9) rfl ⟨Below.refl _ _, dd0⟩) ?_
      refine .cons (fun ρ wz hρ hJ hb hd => by
        refine Eq.mpr (if_neg (by decide)) ?_
        have dd0 : ρ (.tmp 64) = (Value.slice ax len0 cx) := hd 0 _ rfl rfl
        refine step_func 19 _ _ #[Value.slice ax len0 cx] hρ rfl (enters_of Try.func19 (by kernel_rfl) rfl) (by simp [dd0]) ?_
        refine (unhide P7 wz hJ).mono ?_
        rintro r W' ⟨rfl, hb2⟩
        exact ⟨_, rfl, hb2, rfl⟩) ?_
      refine .cons (fun ρ wz hρ hJ hb hd => by
        refine Eq.mpr (if_neg (by decide)) ?_
        have dd0 : ρ (.tmp 0) = (Value.slice a0 len0 cap0) := hb (0, _) (List.mem_of_getElem? (i := 0) rfl)
        exact step_move (.tmp 0) rfl ⟨Below.refl _ _, dd0⟩) ?_
      refine .cons (fun ρ wz hρ hJ hb hd => by
        refine Eq.mpr (if_neg (by decide)) ?_
        have dd0 : ρ (.tmp 66) = (Value.slice a0 len0 cap0) := hd 0 _ rfl rfl
        refine step_func 20 _ _ #[Value.slice a0 len0 cap0] hρ rfl (enters_of Try.func20 (by kernel_rfl) rfl) (by simp [dd0]) ?_
        refine (unhide P8 wz hJ).mono ?_
        rintro r W' ⟨rfl, hb2⟩
        exact ⟨_, rfl, hb2, rfl⟩) ?_
      refine .cons (fun ρ wz hρ hJ hb hd => by
        refine Eq.mpr (if_neg (by decide)) ?_
        have dd0 : ρ (.tmp 65) = (.int .i64 kS) := hd 0 _ rfl rfl
        have dd1 : ρ (.tmp 67) = (.int .i64 kS) := hd 1 _ rfl rfl
        exact step_val (v := (.bool false)) (w' := wz) (by simp [go_sem, execOp, dd0, dd1, hρ.const]) ⟨Below.refl _ _, rfl⟩) ?_
      refine .cons (fun ρ wz hρ hJ hb hd => by
        refine Eq.mpr (if_neg (by decide)) ?_
        have dd0 : ρ (.tmp 63) = (.bool false) := hd 0 _ rfl rfl
        have dd1 : ρ (.tmp 68) = (.bool false) := hd 1 _ rfl rfl
        exact step_val (v := (.bool false)) (w' := wz) (by simp [go_sem, execOp, dd0, dd1, hρ.const]) ⟨Below.refl _ _, rfl⟩) ?_
      refine .cons (fun ρ wz hρ hJ hb hd => by
        refine Eq.mpr (if_neg (by decide)) ?_
        have dd0 : ρ (.tmp 69) = (.bool false) := hd 0 _ rfl rfl
        exact step_move (.tmp 69) rfl ⟨Below.refl _ _, dd0⟩) ?_
      refine .cons (fun ρ wz hρ hJ hb hd => by
        refine Eq.mpr (if_neg (by decide)) ?_
        have dd0 : ρ (.tmp 12) = (Value.int IntKind.i64 ae) := hb (12, _) (List.mem_of_getElem? (i := 12) rfl)
        exact step_move (.tmp 12) rfl ⟨Below.refl _ _, dd0⟩) ?_
      refine .cons (fun ρ wz hρ hJ hb hd => by
        refine Eq.mpr (if_neg (by decide)) ?_
        have dd0 : ρ (.tmp 14) = (Value.int IntKind.i64 ae) := hb (14, _) (List.mem_of_getElem? (i := 14) rfl)
        exact step_move (.tmp 14) rfl ⟨Below.refl _ _, dd0⟩) ?_
      refine .cons (fun ρ wz hρ hJ hb hd => by
        refine Eq.mpr (if_neg (by decide)) ?_
        have dd0 : ρ (.tmp 71) = (Value.int IntKind.i64 ae) := hd 0 _ rfl rfl
        have dd1 : ρ (.tmp 72) = (Value.int IntKind.i64 ae) := hd 1 _ rfl rfl
        exact step_val (v := (.bool false)) (w' := wz) (by simp [go_sem, execOp, dd0, dd1, hρ.const]) ⟨Below.refl _ _, rfl⟩) ?_
      refine .cons (fun ρ wz hρ hJ hb hd => by
        refine Eq.mpr (if_neg (by decide)) ?_
        have dd0 : ρ (.tmp 70) = (.bool false) := hd 0 _ rfl rfl
        have dd1 : ρ (.tmp 73) = (.bool false) := hd 1 _ rfl rfl
        exact step_val (v := (.bool false)) (w' := wz) (by simp [go_sem, execOp, dd0, dd1, hρ.const]) ⟨Below.refl _ _, rfl⟩) ?_
      refine .cons (fun ρ wz hρ hJ hb hd => by
        refine Eq.mpr (if_neg (by decide)) ?_
        have dd0 : ρ (.tmp 74) = (.bool false) := hd 0 _ rfl rfl
        exact step_move (.tmp 74) rfl ⟨Below.refl _ _, dd0⟩) ?_
      refine .cons (fun ρ wz hρ hJ hb hd => by
        refine Eq.mpr (if_neg (by decide)) ?_
        have dd0 : ρ (.tmp 11) = (Value.slice ac an cc) := hb (11, _) (List.mem_of_getElem? (i := 11) rfl)
        exact step_move (.tmp 11) rfl ⟨Below.refl _ _, dd0⟩) ?_
      refine .cons (fun ρ wz hρ hJ hb hd => by
        refine Eq.mpr (if_neg (by decide)) ?_
        have dd0 : ρ (.tmp 13) = (Value.slice aw an cw) := hb (13, _) (List.mem_of_getElem? (i := 13) rfl)
        exact step_move (.tmp 13) rfl ⟨Below.refl _ _, dd0⟩) ?_
      refine .cons (fun ρ wz hρ hJ hb hd => by
        refine Eq.mpr (if_neg (by decide)) ?_
        have dd0 : ρ (.tmp 76) = (Value.slice ac an cc) := hd 0 _ rfl rfl
        have dd1 : ρ (.tmp 77) = (Value.slice aw an cw) := hd 1 _ rfl rfl
        refine step_func 21 _ _ #[Value.slice ac an cc, Value.slice aw an cw] hρ rfl (enters_of Try.func21 (by kernel_rfl) rfl) (by simp [dd0, dd1]) ?_
        refine (unhide P9 wz hJ).mono ?_
        rintro r W' ⟨rfl, kk, rfl⟩
        exact ⟨_, rfl, bdrew (Below.refl _ _) kk, by show _ = _; simp⟩) ?_
      refine .cons (fun ρ wz hρ hJ hb hd => by
        refine Eq.mpr (if_neg (by decide)) ?_
        have dd0 : ρ (.tmp 78) = (.bool true) := hd 0 _ rfl rfl
        exact step_val (v := (.bool false)) (w' := wz) (by simp [go_sem, execOp, dd0, hρ.const]) ⟨Below.refl _ _, rfl⟩) ?_
      refine .cons (fun ρ wz hρ hJ hb hd => by
        refine Eq.mpr (if_neg (by decide)) ?_
        have dd0 : ρ (.tmp 75) = (.bool false) := hd 0 _ rfl rfl
        have dd1 : ρ (.tmp 79) = (.bool false) := hd 1 _ rfl rfl
        exact step_val (v := (.bool false)) (w' := wz) (by simp [go_sem, execOp, dd0, dd1, hρ.const]) ⟨Below.refl _ _, rfl⟩) (.nil _)
    case fin =>
      intro a W5 hsz2 hds hb hJ hv
      obtain rfl := frame_of (((0, (Value.slice a0 len0 cap0)) :: (1, (Value.slice a1 len1 cap1)) :: (2, (Value.int IntKind.i64 site)) :: (3, (Value.agg #[Value.int IntKind.i64 d0, Value.int IntKind.i64 d1])) :: (4, undef) :: (5, undef) :: (6, undef) :: (7, (Value.pointer (some { block := w.heap.size, off := 0 }))) :: (8, (Value.bool false)) :: (9, (Value.slice ax len0 cx)) :: (10, (Value.slice ay len1 cy)) :: (11, (Value.slice ac an cc)) :: (12, (Value.int IntKind.i64 ae)) :: (13, (Value.slice aw an cw)) :: (14, (Value.int IntKind.i64 ae)) :: (15, (Value.slice a0 len0 cap0)) :: (16, (Value.int IntKind.i64 (len0 : Int))) :: (17, (Value.bool false)) :: (18, (Value.bool false)) :: (19, (Value.slice a1 len1 cap1)) :: (20, (Value.int IntKind.i64 (len1 : Int))) :: (21, (Value.bool false)) :: (22, (Value.bool false)) :: (23, undef) :: (24, (Value.slice a0 len0 cap0)) :: (25, (Value.slice ax len0 cx)) :: (26, (Value.slice a1 len1 cap1)) :: (27, (Value.slice ay len1 cy)) :: (28, (Value.tuple #[Value.slice ac an cc, Value.int IntKind.i64 ae])) :: (29, (Value.slice ax len0 cx)) :: (30, (Value.agg #[Value.int IntKind.i64 d0, Value.int IntKind.i64 d1])) :: (31, (Value.tuple #[Value.slice ac an cc, Value.int IntKind.i64 ae])) :: (32, (Value.slice ac an cc)) :: (33, (Value.int IntKind.i64 ae)) :: (34, (Value.tuple #[Value.slice aw an cw, Value.int IntKind.i64 ae])) :: (35, (Value.slice a0 len0 cap0)) :: (36, (Value.agg #[Value.int IntKind.i64 d0, Value.int IntKind.i64 d1])) :: (37, (Value.tuple #[Value.slice aw an cw, Value.int IntKind.i64 ae])) :: (38, (Value.slice aw an cw)) :: (39, (Value.int IntKind.i64 ae)) :: (81, undef) :: (82, undef) :: (83, undef) :: (84, undef) :: (85, undef) :: (86, undef) :: (87, undef) :: (88, undef) :: (89, undef) :: (90, undef) :: (91, undef) :: (92, undef) :: (93, undef) :: (94, undef) :: (95, undef) :: (96, undef) :: (97, undef) :: (98, undef) :: (99, undef) :: (100, undef) :: (101, undef) :: (102, undef) :: (103, undef) :: (104, undef) :: (105, undef) :: (106, undef) :: (107, undef) :: (108, undef) :: (109, undef) :: (110, undef) :: (111, undef) :: (112, undef) :: (113, undef) :: (114, undef) :: (115, undef) :: (116, undef) :: (117, undef) :: (118, undef) :: (119, undef) :: (120, undef) :: (121, undef) :: (122, undef) :: (123, undef) :: (124, undef) :: (125, undef) :: (126, undef) :: (127, undef) :: []) ++ ((40, (Value.slice ax len0 cx)) :: (41, (.int .i64 kC)) :: (42, (Value.slice a0 len0 cap0)) :: (43, (.int .i64 kC)) :: (44, (.bool false)) :: (45, (.bool false)) :: (46, (Value.slice ax len0 cx)) :: (47, (Value.int IntKind.i64 site)) :: (48, (.int .i64 kG)) :: (49, (Value.slice a0 len0 cap0)) :: (50, (Value.int IntKind.i64 site)) :: (51, (.int .i64 kG)) :: (52, (.bool false)) :: (53, (.bool false)) :: (54, (.bool false)) :: (55, (Value.slice ax len0 cx)) :: (56, (.agg #[.int .i64 d0, .int .i64 d1])) :: (57, (.bool kH)) :: (58, (Value.slice a0 len0 cap0)) :: (59, (.agg #[.int .i64 d0, .int .i64 d1])) :: (60, (.bool kH)) :: (61, (.bool false)) :: (62, (.bool false)) :: (63, (.bool false)) :: (64, (Value.slice ax len0 cx)) :: (65, (.int .i64 kS)) :: (66, (Value.slice a0 len0 cap0)) :: (67, (.int .i64 kS)) :: (68, (.bool false)) :: (69, (.bool false)) :: (70, (.bool false)) :: (71, (Value.int IntKind.i64 ae)) :: (72, (Value.int IntKind.i64 ae)) :: (73, (.bool false)) :: (74, (.bool false)) :: (75, (.bool false)) :: (76, (Value.slice ac an cc)) :: (77, (Value.slice aw an cw)) :: (78, (.bool true)) :: (79, (.bool false)) :: (80, (.bool false)) :: [])) ((Value.slice a0 len0 cap0) :: (Value.slice a1 len1 cap1) :: (Value.int IntKind.i64 site) :: (Value.agg #[Value.int IntKind.i64 d0, Value.int IntKind.i64 d1]) :: undef :: undef :: undef :: (Value.pointer (some { block := w.heap.size, off := 0 })) :: (Value.bool false) :: (Value.slice ax len0 cx) :: (Value.slice ay len1 cy) :: (Value.slice ac an cc) :: (Value.int IntKind.i64 ae) :: (Value.slice aw an cw) :: (Value.int IntKind.i64 ae) :: (Value.slice a0 len0 cap0) :: (Value.int IntKind.i64 (len0 : Int)) :: (Value.bool false) :: (Value.bool false) :: (Value.slice a1 len1 cap1) :: (Value.int IntKind.i64 (len1 : Int)) :: (Value.bool false) :: (Value.bool false) :: undef :: (Value.slice a0 len0 cap0) :: (Value.slice ax len0 cx) :: (Value.slice a1 len1 cap1) :: (Value.slice ay len1 cy) :: (Value.tuple #[Value.slice ac an cc, Value.int IntKind.i64 ae]) :: (Value.slice ax len0 cx) :: (Value.agg #[Value.int IntKind.i64 d0, Value.int IntKind.i64 d1]) :: (Value.tuple #[Value.slice ac an cc, Value.int IntKind.i64 ae]) :: (Value.slice ac an cc) :: (Value.int IntKind.i64 ae) :: (Value.tuple #[Value.slice aw an cw, Value.int IntKind.i64 ae]) :: (Value.slice a0 len0 cap0) :: (Value.agg #[Value.int IntKind.i64 d0, Value.int IntKind.i64 d1]) :: (Value.tuple #[Value.slice aw an cw, Value.int IntKind.i64 ae]) :: (Value.slice aw an cw) :: (Value.int IntKind.i64 ae) :: (Value.slice ax len0 cx) :: (.int .i64 kC) :: (Value.slice a0 len0 cap0) :: (.int .i64 kC) :: (.bool false) :: (.bool false) :: (Value.slice ax len0 cx) :: (Value.int IntKind.i64 site) :: (.int .i64 kG) :: (Value.slice a0 len0 cap0) :: (Value.int IntKind.i64 site) :: (.int .i64 kG) :: (.bool false) :: (.bool false) :: (.bool false) :: (Value.slice ax len0 cx) :: (.agg #[.int .i64 d0, .int .i64 d1]) :: (.bool kH) :: (Value.slice a0 len0 cap0) :: (.agg #[.int .i64 d0, .int .i64 d1]) :: (.bool kH) :: (.bool false) :: (.bool false) :: (.bool false) :: (Value.slice ax len0 cx) :: (.int .i64 kS) :: (Value.slice a0 len0 cap0) :: (.int .i64 kS) :: (.bool false) :: (.bool false) :: (.bool false) :: (Value.int IntKind.i64 ae) :: (Value.int IntKind.i64 ae) :: (.bool false) :: (.bool false) :: (.bool false) :: (Value.slice ac an cc) :: (Value.slice aw an cw) :: (.bool true) :: (.bool false) :: (.bool false) :: undef :: undef :: undef :: undef :: undef :: undef :: undef :: undef :: undef :: undef :: undef :: undef :: undef :: undef :: undef :: undef :: undef :: undef :: undef :: undef :: undef :: undef :: undef :: undef :: undef :: undef :: undef :: undef :: undef :: undef :: undef :: undef :: undef :: undef :: undef :: undef :: undef :: undef :: undef :: undef :: undef :: undef :: undef :: undef :: undef :: undef :: undef :: []) hsz2 hds (fun p hp => by
        rcases List.mem_append.1 hp with h | h
        · exact hb p h
        · simp only [List.mem_cons, List.not_mem_nil, or_false] at h
          rcases h with rfl | rfl | rfl | rfl | rfl | rfl | rfl | rfl | rfl | rfl | rfl | rfl | rfl | rfl | rfl | rfl | rfl | rfl | rfl | rfl | rfl | rfl | rfl | rfl | rfl | rfl | rfl | rfl | rfl | rfl | rfl | rfl | rfl | rfl | rfl | rfl | rfl | rfl | rfl | rfl | rfl
          · exact hv 0 (by decide)
          · exact hv 1 (by decide)
          · exact hv 2 (by decide)
          · exact hv 3 (by decide)
          · exact hv 4 (by decide)
          · exact hv 5 (by decide)
          · exact hv 6 (by decide)
          · exact hv 7 (by decide)
          · exact hv 8 (by decide)
          · exact hv 9 (by decide)
          · exact hv 10 (by decide)
          · exact hv 11 (by decide)
          · exact hv 12 (by decide)
          · exact hv 13 (by decide)
          · exact hv 14 (by decide)
          · exact hv 15 (by decide)
          · exact hv 16 (by decide)
          · exact hv 17 (by decide)
          · exact hv 18 (by decide)
          · exact hv 19 (by decide)
          · exact hv 20 (by decide)
          · exact hv 21 (by decide)
          · exact hv 22 (by decide)
          · exact hv 23 (by decide)
          · exact hv 24 (by decide)
          · exact hv 25 (by decide)
          · exact hv 26 (by decide)
          · exact hv 27 (by decide)
          · exact hv 28 (by decide)
          · exact hv 29 (by decide)
          · exact hv 30 (by decide)
          · exact hv 31 (by decide)
          · exact hv 32 (by decide)
          · exact hv 33 (by decide)
          · exact hv 34 (by decide)
          · exact hv 35 (by decide)
          · exact hv 36 (by decide)
          · exact hv 37 (by decide)
          · exact hv 38 (by decide)
          · exact hv 39 (by decide)
          · exact hv 40 (by decide)) rfl
      clear hb hds hsz2 hv
      go_wp2
      go_meet
      case rel => exact ⟨rfl, hide ((unhide Ra).below hJ), hide ((unhide Rb).below hJ), hide ((unhide Rx).below hJ), hide ((unhide Ry).below hJ), hide (bnext (unhide BX) hJ)⟩
  case rest =>
    clear Ra Rb Rx Ry Rc Rw BX XD C0 P1 P2 P3 P4 P5 P6 P7 P8 P9
    obtain ⟨rfl, Ra, Rb, Rx, Ry, BX⟩ := hcut
    obtain ⟨q1, hq1⟩ : ∃ x, cov (sy z0) (sy z1) = x := ⟨_, rfl⟩
    have K := hide (Covers_in _ _ z0 z1 wc (unhide rowx _ (unhide Rx)) (unhide rowy _ (unhide Ry)) l0 l1)
    rw [hq1] at K
    go_wp2_with fail
    refine (unhide K).mono ?_
    rintro e W5 ⟨rfl, hb⟩
    replace Ra := hide ((unhide Ra).below hb)
    replace Rb := hide ((unhide Rb).below hb)
    replace Rx := hide ((unhide Rx).below hb)
    replace Ry := hide ((unhide Ry).below hb)
    replace BX := hide (bnext (unhide BX) hb)
    clear K hb
    have K := hide (refCovers_in _ _ z0 z1 W5 (unhide Ra) (unhide Rb) l0 l1)
    rw [hq1] at K
    go_wp2_with fail
    refine (unhide K).mono ?_
    rintro e W6 ⟨rfl, hb⟩
    clear hq1
    replace Ra := hide ((unhide Ra).below hb)
    replace Rb := hide ((unhide Rb).below hb)
    replace Rx := hide ((unhide Rx).below hb)
    replace Ry := hide ((unhide Ry).below hb)
    replace BX := hide (bnext (unhide BX) hb)
    clear K hb
    obtain ⟨q2, hq2⟩ : ∃ x, cov (sy z1) (sy z0) = x := ⟨_, rfl⟩
    have K := hide (Covers_in _ _ z1 z0 W6 (unhide rowy _ (unhide Ry)) (unhide rowx _ (unhide Rx)) l1 l0)
    rw [hq2] at K
    go_wp2_with fail
    refine (unhide K).mono ?_
    rintro e W7 ⟨rfl, hb⟩
    replace Ra := hide ((unhide Ra).below hb)
    replace Rb := hide ((unhide Rb).below hb)
    replace Rx := hide ((unhide Rx).below hb)
    replace Ry := hide ((unhide Ry).below hb)
    replace BX := hide (bnext (unhide BX) hb)
    clear K hb
    have K := hide (refCovers_in _ _ z1 z0 W7 (unhide Rb) (unhide Ra) l1 l0)
    rw [hq2] at K
    go_wp2_with fail
    refine (unhide K).mono ?_
    rintro e W8 ⟨rfl, hb⟩
    clear hq2
    replace Ra := hide ((unhide Ra).below hb)
    replace Rb := hide ((unhide Rb).below hb)
    replace Rx := hide ((unhide Rx).below hb)
    replace Ry := hide ((unhide Ry).below hb)
    replace BX := hide (bnext (unhide BX) hb)
    clear K hb
    have K := hide (Merge_in _ _ z0 z1 W8 (unhide rowx _ (unhide Rx)) (unhide rowy _ (unhide Ry)) l0 l1)
    go_wp2_with fail
    refine (unhide K).mono ?_
    rintro e W9 ⟨vm, rfl, om, hb⟩
    obtain ⟨am, cm, rfl⟩ := om.form
    have Rm1 := om.row
    clear om
    have hml := vec_len (mrg (sy z0) (sy z1))
    generalize (vec (mrg (sy z0) (sy z1))).length = nm at Rm1 ⊢
    replace Rm1 := hide Rm1
    replace Ra := hide ((unhide Ra).below hb)
    replace Rb := hide ((unhide Rb).below hb)
    replace Rx := hide ((unhide Rx).below hb)
    replace Ry := hide ((unhide Ry).below hb)
    replace BX := hide (bnext (unhide BX) hb)
    clear K hb
    have K := hide (refMerge_in _ _ z0 z1 W9 (unhide Ra) (unhide Rb) l0 l1)
    go_wp2_with fail
    refine (unhide K).mono ?_
    rintro e W10 ⟨vn, rfl, on, hb⟩
    obtain ⟨an2, cn2, rfl⟩ := on.form
    have Rm2 := on.row
    clear on
    generalize (vec (mrg (sy z0) (sy z1))).length = nn at Rm2 ⊢
    replace Rm2 := hide Rm2
    replace Ra := hide ((unhide Ra).below hb)
    replace Rb := hide ((unhide Rb).below hb)
    replace Rx := hide ((unhide Rx).below hb)
    replace Ry := hide ((unhide Ry).below hb)
    replace Rm1 := hide ((unhide Rm1).below hb)
    replace BX := hide (bnext (unhide BX) hb)
    clear K hb
    have hdd : decide ((vec (mrg (sy z0) (sy z1))) = (vec (mrg (sy z0) (sy z1)))) = true := by simp
    have K := hide (Same_in (vec (mrg (sy z0) (sy z1))) (vec (mrg (sy z0) (sy z1))) _ _ W10 (unhide Rm1) (unhide Rm2) (by omega) (by omega))
    rw [hdd] at K
    go_wp2_with fail
    refine (unhide K).mono ?_
    rintro e W11 ⟨rfl, k9, hk9⟩
    have hb := hide_drew hk9
    clear hk9 hdd hml
    replace Ra := hide ((unhide Ra).below hb)
    replace Rb := hide ((unhide Rb).below hb)
    replace Rx := hide ((unhide Rx).below hb)
    replace Ry := hide ((unhide Ry).below hb)
    replace Rm1 := hide ((unhide Rm1).below hb)
    replace Rm2 := hide ((unhide Rm2).below hb)
    replace BX := hide (bnext (unhide BX) hb)
    clear K hb
    clear Rm1 Rm2
    have K := hide (Least_in _ _ z0 z1 W11 (unhide rowx _ (unhide Rx)) (unhide rowy _ (unhide Ry)) l0 l1)
    go_wp2_with fail
    refine (unhide K).mono ?_
    rintro e W12 ⟨vm, rfl, om, hb⟩
    obtain ⟨am, cm, rfl⟩ := om.form
    have Rm1 := om.row
    clear om
    have hml := vec_len (lst (sy z0) (sy z1))
    generalize (vec (lst (sy z0) (sy z1))).length = nm at Rm1 ⊢
    replace Rm1 := hide Rm1
    replace Ra := hide ((unhide Ra).below hb)
    replace Rb := hide ((unhide Rb).below hb)
    replace Rx := hide ((unhide Rx).below hb)
    replace Ry := hide ((unhide Ry).below hb)
    replace BX := hide (bnext (unhide BX) hb)
    clear K hb
    have K := hide (refLeast_in _ _ z0 z1 W12 (unhide Ra) (unhide Rb) l0 l1)
    go_wp2_with fail
    refine (unhide K).mono ?_
    rintro e W13 ⟨vn, rfl, on, hb⟩
    obtain ⟨an2, cn2, rfl⟩ := on.form
    have Rm2 := on.row
    clear on
    generalize (vec (lst (sy z0) (sy z1))).length = nn at Rm2 ⊢
    replace Rm2 := hide Rm2
    replace Ra := hide ((unhide Ra).below hb)
    replace Rb := hide ((unhide Rb).below hb)
    replace Rx := hide ((unhide Rx).below hb)
    replace Ry := hide ((unhide Ry).below hb)
    replace Rm1 := hide ((unhide Rm1).below hb)
    replace BX := hide (bnext (unhide BX) hb)
    clear K hb
    have hdd : decide ((vec (lst (sy z0) (sy z1))) = (vec (lst (sy z0) (sy z1)))) = true := by simp
    have K := hide (Same_in (vec (lst (sy z0) (sy z1))) (vec (lst (sy z0) (sy z1))) _ _ W13 (unhide Rm1) (unhide Rm2) (by omega) (by omega))
    rw [hdd] at K
    go_wp2_with fail
    refine (unhide K).mono ?_
    rintro e W14 ⟨rfl, k9, hk9⟩
    have hb := hide_drew hk9
    clear hk9 hdd hml
    replace Ra := hide ((unhide Ra).below hb)
    replace Rb := hide ((unhide Rb).below hb)
    replace Rx := hide ((unhide Rx).below hb)
    replace Ry := hide ((unhide Ry).below hb)
    replace Rm1 := hide ((unhide Rm1).below hb)
    replace Rm2 := hide ((unhide Rm2).below hb)
    replace BX := hide (bnext (unhide BX) hb)
    clear K hb
    clear Rm1 Rm2
    have K := hide (stands_in ax cx z0 _ _ W14 (unhide Rx) (unhide Ra) s0)
    rw [unhide E0] at K
    go_wp2_with fail
    refine (unhide K).mono ?_
    rintro e W15 ⟨rfl, hb⟩
    replace Ra := hide ((unhide Ra).below hb)
    replace Rb := hide ((unhide Rb).below hb)
    replace Rx := hide ((unhide Rx).below hb)
    replace Ry := hide ((unhide Ry).below hb)
    replace BX := hide (bnext (unhide BX) hb)
    clear K hb
    have K := hide (stands_in ay cy z1 _ _ W15 (unhide Ry) (unhide Rb) s1)
    rw [unhide E1] at K
    go_wp2_with fail
    refine (unhide K).mono ?_
    rintro e W16 ⟨rfl, hb⟩
    replace Ra := hide ((unhide Ra).below hb)
    replace Rb := hide ((unhide Rb).below hb)
    replace Rx := hide ((unhide Rx).below hb)
    replace Ry := hide ((unhide Ry).below hb)
    replace BX := hide (bnext (unhide BX) hb)
    clear K hb
    have K := hide (known_in W16)
    go_wp2_with fail
    refine (unhide K).mono ?_
    rintro e W17 ⟨rfl, hb⟩
    replace Ra := hide ((unhide Ra).below hb)
    replace Rb := hide ((unhide Rb).below hb)
    replace Rx := hide ((unhide Rx).below hb)
    replace Ry := hide ((unhide Ry).below hb)
    replace BX := hide (bnext (unhide BX) hb)
    clear K hb
    go_wp2
    go_ret
    exact ⟨rfl, unhide BX⟩

theorem own : ownKnob Try.prog.godebug = none := by kernel_rfl
theorem laidOut2 : laidOutB Try.prog = true := by kernel_rfl

set_option maxRecDepth 100000 in
theorem lifted (os : Os) (started : os.Started) (H : Type) (enc : TypeId × Value → H) :
    ReturnsInHanded {} Try.checked os 3 .any (Rows.vectorTellsSpec.pre6 enc Try.prog Try.f3 Rows.vectorTellsRow.domain false) (Rows.vectorTellsSpec.post enc Try.prog Try.f3 false true false false) := by
  refine returnsInHanded_of_change (C := Try.checked) own started (by kernel_rfl) Try.func3
    (ChangeSpec.witness6 (enc := enc) (C := Try.checked) false ⟨#[], #[.slice none 0 0, .slice none 0 0, .int .i64 0, .agg #[.int .i64 0, .int .i64 0]], []⟩ 8 (by kernel_rfl) (by kernel_rfl) (by kernel_rfl) (by kernel_rfl)) ?_
  intro W base args ds gs before hval0 hW hcnd _
  have hval : ∀ (j : Nat) t v, Try.f3.params[j]? = some t → args[j]? = some v → Value.okWide Try.prog W .any base t v := hval0
  have hW' := hW
  obtain ⟨p, q, hA0, hV, rfl, hfz, hnd⟩ := hW
  have hA : DataW.TrodAll enc Try.prog W 0 (fun _ => true) true Try.f3.params.toList args.toList ds p := hA0
  rw [Try.params3] at hA hval
  obtain ⟨v0, vs0, d0, ds0, p0, q0, hargs, rfl, rfl, h0, r0⟩ := trodAll_cons hA
  obtain ⟨v1, vs1, d1, ds1, p1, q1, rfl, rfl, rfl, h1, r1⟩ := trodAll_cons r0
  obtain ⟨v2, vs2, d2, ds2, p2, q2, rfl, rfl, rfl, h2, r2⟩ := trodAll_cons r1
  obtain ⟨v3, vs3, d3, ds3, p3, q3, rfl, rfl, rfl, h3, r3⟩ := trodAll_cons r2
  obtain ⟨rfl, rfl, rfl⟩ := trodAll_nil r3
  obtain rfl : args = #[v0, v1, v2, v3] := by cases args; simp_all
  obtain ⟨rfl, rfl⟩ := trodVars_none hV
  obtain ⟨a0, len0, cap0, rfl⟩ := okWide_slice Try.underlying23 (hval 0 23 v0 rfl rfl)
  have k0 := h0
  have lt0 : ∀ x ∈ p0, x.block < W.heap.size := by obtain ⟨m, hm⟩ := k0; exact DataW.trod_lt m _ _ _ hm
  obtain ⟨z0, w0⟩ : ∃ l : List (Int × Int), RI W (.slice a0 len0 cap0) l ∧ l.length = len0 ∧ len0 ≤ maxLen ∧ ∀ e ∈ l, idIn e := by
    obtain ⟨fuel, hf⟩ := h0
    simp only [Value.cells] at hf
    exact open_dots hf
  obtain ⟨a1, len1, cap1, rfl⟩ := okWide_slice Try.underlying23 (hval 1 23 v1 rfl rfl)
  have k1 := h1
  have lt1 : ∀ x ∈ p1, x.block < W.heap.size := by obtain ⟨m, hm⟩ := k1; exact DataW.trod_lt m _ _ _ hm
  obtain ⟨z1, w1⟩ : ∃ l : List (Int × Int), RI W (.slice a1 len1 cap1) l ∧ l.length = len1 ∧ len1 ≤ maxLen ∧ ∀ e ∈ l, idIn e := by
    obtain ⟨fuel, hf⟩ := h1
    simp only [Value.cells] at hf
    exact open_dots hf
  obtain ⟨a2, rfl, rfl, rfl, w2⟩ := open_int Try.underlying3 (hval 2 3 v2 rfl rfl) h2
  have k3 := h3
  have lt3 : ∀ x ∈ p3, x.block < W.heap.size := by obtain ⟨m, hm⟩ := k3; exact DataW.trod_lt m _ _ _ hm
  obtain ⟨a3, b3, rfl, w3⟩ := open_dot (hval 3 25 v3 rfl rfl) h3
  clear hA0 hval0
  refine (walk a0 len0 cap0 z0 a1 len1 cap1 z1 a2 a3 b3 W w0 w1 w2 w3).mono fun e W' ⟨he, bel⟩ => ?_
  subst he
  exact ⟨_, rfl, _, _, _, [], _, [], hW', trodAll_mk1 (shut_bool Try.underlying4 _), (trodAll_cons_mk (Below.trod laidOut2 (by kernel_rfl) (of_decide_eq_true (by kernel_rfl)) k0 bel lt0) (trodAll_cons_mk (Below.trod laidOut2 (by kernel_rfl) (of_decide_eq_true (by kernel_rfl)) k1 bel lt1) (trodAll_cons_mk (shut_int Try.underlying3 w2) (trodAll_cons_mk (Below.trod laidOut2 (by kernel_rfl) (of_decide_eq_true (by kernel_rfl)) k3 bel lt3) trodAll_mk0)))), rfl, bel.frame _, fun h => by cases h⟩

theorem over : Rows.vectorTellsRow.holds Try.pinned (OpenSpec.ofChange Rows.vectorTellsSpec) :=
  OpenClaim.holds_of_wide 3 Try.f3 rfl rfl rfl rfl rfl rfl rfl ⟨rfl, rfl, rfl, rfl, rfl⟩ rfl rfl rfl rfl rfl (by kernel_rfl) Try.func3 (by kernel_rfl)
    (of_decide_eq_true (by kernel_rfl)) (by unfold Func.isWrapper; first | (rw [if_pos (by decide +kernel)]; kernel_rfl) | (rw [if_neg (by decide +kernel)]; exact ⟨rfl, rfl⟩))
    (fun os started H enc _ => lifted os started H enc)

end LVectorTells

theorem vectorTells_holds : Rows.VectorTellsSaid := LVectorTells.over

end Go.Proofs.Ytmjhkgpbemjjkaa
