/-
  Chapter 7's law VectorPuts returns true for every list of Dots and every two numbers, and leaves its arguments as they were; no condition.
-/
import Derived.Test.YtmjhkgpbemjjkaaRows
import Derived.WalkKit
import Derived.ProofKit
import Derived.OpenShut
import Derived.ShutString
import Derived.ChangeOld
import Derived.Below
import Derived.Test.YtmjhkgpbemjjkaaZRM
import Derived.Test.YtmjhkgpbemjjkaaZU4
import Derived.Test.YtmjhkgpbemjjkaaZOp
import Derived.Test.YtmjhkgpbemjjkaaZRegG
import Derived.Deep.CutRange
set_option linter.unusedVariables false
set_option linter.unusedSimpArgs false
namespace Go.Proofs.Ytmjhkgpbemjjkaa
namespace LVectorPuts
open Go.ChangeShapes Go.WideShapes Go.ChangeAt Go.RowKit Go.Lib
open Go.ChangeMaps (open_string shut_string)

/-- a Writer, and a list with a mark beside it -/
structure WS (w W : World) (p : Nat) (v : Value) (L : List Nat) (B : Nat) (ax : Option Addr) (cx : Nat) (z : List (Int × Int)) : Prop where
  wr : Wr W p v L 0
  rm : Rm W B ax cx z
  ap : ∀ k, (Value.slice ax (mk1 z).length cx).ownBlock = some k → ¬ wOwn p v k ∧ k < W.heap.size
  bel : Below w.heap.size w W
theorem WS.below {w W W' : World} {p : Nat} {v : Value} {L : List Nat} {B : Nat} {ax : Option Addr} {cx : Nat} {z : List (Int × Int)} (h : WS w W p v L B ax cx z) (hb : Below W.heap.size W W') : WS w W' p v L B ax cx z :=
  ⟨h.wr.below hb, h.rm.below hb, fun k hk => ⟨(h.ap k hk).1, Nat.lt_of_lt_of_le (h.ap k hk).2 hb.size⟩, bnext h.bel hb⟩
theorem WS.num {w W W' : World} {p : Nat} {v v' : Value} {L L' : List Nat} {B : Nat} {ax : Option Addr} {cx : Nat} {z : List (Int × Int)} (h : WS w W p v L B ax cx z) (hp : w.heap.size ≤ p) (hw : Wr W' p v' L' 0) (k : Kp (wOwn p v) W W') (ho : OwnAt W v v') : WS w W' p v' L' B ax cx z :=
  ⟨hw, owns_kp h.rm k (fun i hi => (h.ap i hi).1), fun i hi => ⟨fun e => by
    rcases wOwn_at ho i e with h' | h'
    · exact (h.ap i hi).1 h'
    · have := (h.ap i hi).2; omega, Nat.lt_of_lt_of_le (h.ap i hi).2 k.size⟩, k.below h.bel (fun i hi => by
    rcases hi with rfl | hi
    · exact hp
    · have := (h.wr.row.lt i hi).1; omega)⟩
theorem WS.start {w W1 W2 : World} {p : Nat} {v : Value} {L : List Nat} {ax : Option Addr} {cx : Nat} {z : List (Int × Int)} (hw : Wr W1 p v L 0) (hb : Below w.heap.size w W1) (hr : Rm W2 W1.heap.size ax cx z) (hb2 : Below W1.heap.size W1 W2) : WS w W2 p v L W1.heap.size ax cx z :=
  ⟨hw.below hb2, hr, fun k hk => ⟨fun e => by
    have h1 := (hr.lt k hk).1
    rcases e with rfl | e
    · have := hw.box.lt; omega
    · have := (hw.row.lt k e).2; omega, (hr.lt k hk).2⟩, bnext hb hb2⟩

set_option maxRecDepth 100000 in
set_option maxHeartbeats 20000000 in
theorem walk (a0 : Option Addr) (len0 cap0 : Nat) (z0 : List (Int × Int)) (ah be : Int) (w : World) (w0 : RI w (.slice a0 len0 cap0) z0 ∧ z0.length = len0 ∧ len0 ≤ maxLen ∧ ∀ e ∈ z0, idIn e) (w1 : (Lit.int .i64 ah).wf = true) (w2 : (Lit.int .i64 be).wf = true) :
    Calls Try.prog 4 #[.slice a0 len0 cap0, .int .i64 ah, .int .i64 be] w fun e W => e = .returned (.bool true) ∧ Below w.heap.size w W := by
  obtain ⟨r0, e0, _, _⟩ := w0
  have i1 := (wf64 w1).2
  have i2 := (wf64 w2).2
  clear w1 w2
  have K := hide (known_in w)
  by_cases h0 : 4000 < len0
  · have h0' : (4000 : Int) < (len0 : Int) := by omega
    clear e0
    go_enter Try.func4, Try.ntmps4
    go_wp2_with (go_at_call 9; refine (unhide K).mono ?_; rintro e W3 ⟨rfl, hb⟩; replace hb := hide hb)
    go_ret
    exact ⟨rfl, unhide hb⟩
  by_cases h1 : ah < 0
  · have h0' : ¬ (4000 : Int) < (len0 : Int) := by omega
    clear e0
    go_enter Try.func4, Try.ntmps4
    go_wp2_with (go_at_call 9; refine (unhide K).mono ?_; rintro e W3 ⟨rfl, hb⟩; replace hb := hide hb)
    go_ret
    exact ⟨rfl, unhide hb⟩
  by_cases h2 : be < 0
  · have h0' : ¬ (4000 : Int) < (len0 : Int) := by omega
    clear e0
    go_enter Try.func4, Try.ntmps4
    go_wp2_with (go_at_call 9; refine (unhide K).mono ?_; rintro e W3 ⟨rfl, hb⟩; replace hb := hide hb)
    go_ret
    exact ⟨rfl, unhide hb⟩
  have h0' : ¬ (4000 : Int) < (len0 : Int) := by omega
  obtain ⟨a, rfl⟩ : ∃ a : Nat, ah = (a : Int) := ⟨ah.toNat, by omega⟩
  obtain ⟨b, rfl⟩ : ∃ b : Nat, be = (b : Int) := ⟨be.toNat, by omega⟩
  have s0 : z0.length ≤ 4000 := by omega
  have l0 : z0.length ≤ 140737488355328 := by omega
  have HG := hide (sy_good z0)
  obtain ⟨d, hd⟩ : ∃ d, vec (sy z0) = d := ⟨_, rfl⟩
  have hdl : d.length ≤ 17 := by rw [← hd]; exact vec_len _
  have HDn := hide (show ∀ x ∈ d, 0 ≤ x.1 ∧ 0 ≤ x.2 from fun x hx => by rw [← hd] at hx; have := vec_in (unhide HG) hx; omega)
  have HDt := hide (fun rest => takeV_back (unhide HG) rest)
  rw [hd] at HDt
  have E0 := hide e0
  have R0 := hide r0
  replace hd := hide hd
  have na := num_len a
  have nb := num_len b
  have nd := num_len d.length
  have pd := pb_len d
  clear e0 r0 K h0
  obtain ⟨L3, hL3⟩ : ∃ L, num a ++ num d.length ++ pb d = L := ⟨_, rfl⟩
  obtain ⟨L4, hL4⟩ : ∃ L, L3 ++ num b = L := ⟨_, rfl⟩
  have nl3 : L3.length ≤ 1000 := by rw [← hL3]; simp only [List.length_append]; omega
  have nl4 : L4.length ≤ 2000 := by rw [← hL4]; simp only [List.length_append]; omega
  have q1 : wNum ([], 0) (a : Int) = (num a, 0) := by rw [wNum_pos [] (by omega)]; simp
  have q2 : putV (num a, 0) d = (L3, 0) := by rw [putV_pb d _ (unhide HDn), hL3]
  have q3 : wNum (L3, 0) (b : Int) = (L4, 0) := by rw [wNum_pos L3 (by omega), Int.toNat_natCast, hL4]
  replace hL3 := hide hL3
  replace hL4 := hide hL4
  replace q1 := hide q1
  replace q2 := hide q2
  replace q3 := hide q3
  obtain ⟨X, hX⟩ : ∃ X, w.alloc (.cells #[.slice none 0 0, .int .i64 0] 43) = X := ⟨_, rfl⟩
  have BX : Hid (Below w.heap.size w X) := by rw [← hX]; exact ballc (Below.refl _ _) _
  have HW : Hid (Wr X w.heap.size (.slice none 0 0) [] 0) := by rw [← hX]; exact Wr.new w
  have K := hide (wNumber_in (a : Int) (unhide HW) (by omega) (by omega) (by simp))
  rw [unhide q1] at K
  simp only at K
  go_enter Try.func4, Try.ntmps4
  go_wp2_with fail
  refine (unhide K).mono ?_
  rintro e W1 ⟨rfl, v1, hw, hk, ho⟩
  replace BX := hide (hk.below (unhide BX) (fun i hi => by rcases hi with rfl | hi; exact Nat.le_refl _; cases hi))
  replace HW := hide hw
  clear K hw hk ho hX h0'
  have K := hide (room_in _ z0 W1 ((unhide R0).below (unhide BX)) s0)
  go_wp2_with fail
  refine (unhide K).mono ?_
  rintro e W2 ⟨ax, cx, rfl, hr, hb⟩
  have HS := hide (WS.start (unhide HW) (unhide BX) hr hb)
  rw [unhide E0]
  clear K hr hb HW BX
  have rowx : ∀ W', Rm W' W1.heap.size ax cx z0 → RI W' (.slice ax len0 cx) z0 := fun W' h => by have := h.row; rw [unhide E0] at this; exact this
  replace rowx := hide rowx
  have K := hide (Put_in z0 (unhide HS).wr (unhide rowx _ (unhide HS).rm) l0 (by omega))
  rw [unhide hd, unhide q2] at K
  simp only at K
  go_wp2_with fail
  refine (unhide K).mono ?_
  rintro e W3 ⟨rfl, v3, hw, hk, ho⟩
  replace HS := hide ((unhide HS).num (Nat.le_refl _) hw hk ho)
  clear K hw hk ho
  have K := hide (wNumber_in (b : Int) (unhide HS).wr (by omega) (by omega) (by omega))
  rw [unhide q3] at K
  simp only at K
  go_wp2_with fail
  refine (unhide K).mono ?_
  rintro e W4 ⟨rfl, v4, hw, hk, ho⟩
  replace HS := hide ((unhide HS).num (Nat.le_refl _) hw hk ho)
  clear K hw hk ho
  -- the document's own
  have K := hide (refNumber_in W4 (.slice none 0 0) [] 0 (a : Int) (RC.nil _ none 0) (by omega) (by omega) (by simp))
  rw [unhide q1] at K
  simp only at K
  go_wp2_with fail
  refine (unhide K).mono ?_
  rintro e W5 ⟨u5, rfl, _, ho, _, hb⟩
  have o5 := ho (by trivial) (by omega)
  obtain ⟨a5, c5, hu5⟩ := owns_form o5
  generalize (num a).length = n5 at hu5
  subst hu5
  obtain ⟨X5, hX5⟩ : ∃ X, W5.alloc (.cells #[.slice a5 n5 c5, .int .i64 0] 47) = X := ⟨_, rfl⟩
  have x5 : Bx X5 W5.heap.size 47 #[.slice a5 n5 c5, .int .i64 0] := by rw [← hX5]; exact Bx.new _ _ _
  have KB : Hid (Below W4.heap.size W4 X5) := by rw [← hX5]; exact ballc hb _
  have R5 : RC X5 (.slice a5 n5 c5) (num a).length (bC (num a)) := by rw [← hX5]; exact RC.below (RC.of_owns o5) (ballc (Below.refl _ _) _)
  have hq : W4.heap.size ≤ W5.heap.size := hb.size
  have hq5 : W5.heap.size < X5.heap.size := x5.lt
  have BXw := hide (bnext (unhide HS).bel (unhide KB))
  have K1 := hide (refPut_in _ _ (num a) z0 X5 R5 ((unhide R0).below (unhide BXw)) l0 (by omega))
  rw [unhide hd, unhide hL3] at K1
  replace x5 := hide x5
  replace hX5 := hide hX5
  clear K ho hb o5 R5
  go_wp2_with fail
  rw [unhide hX5]
  refine (unhide K1).mono ?_
  rintro e W6 ⟨u6, rfl, o6, hb⟩
  obtain ⟨a6, c6, hu6⟩ := owns_form o6
  generalize hn6 : L3.length = n6 at hu6
  subst hu6
  have x6 := (unhide x5).below hb
  obtain ⟨q, hqq⟩ : ∃ q, W5.heap.size = q := ⟨_, rfl⟩
  rw [hqq] at x6 hq hq5
  obtain ⟨Y6, hY6⟩ : ∃ Y, (W6.setCell ⟨q, 0, none⟩ (.slice a6 n6 c6)).setCell ⟨q, 1, none⟩ (.int .i64 0) = Y := ⟨_, rfl⟩
  have y6 : Bx Y6 q 47 #[.slice a6 n6 c6, .int .i64 0] := by
    rw [← hY6]
    have := (x6.set 0 (.slice a6 n6 c6)).set 1 (.int .i64 0)
    simpa using this
  have KB6 : Below W4.heap.size W4 Y6 := by rw [← hY6]; exact bset (bset (bnext (unhide KB) hb) ⟨q, 0, none⟩ hq _) ⟨q, 1, none⟩ hq _
  have kk : Kp (fun i => i = q) W6 Y6 := by rw [← hY6]; exact (Kp.set (N := fun i => i = q) W6 ⟨q, 0, none⟩ _ rfl).trans (Kp.set (N := fun i => i = q) _ ⟨q, 1, none⟩ _ rfl) (fun i h => .inl h)
  have R6 : RC Y6 (.slice a6 n6 c6) L3.length (bC L3) := (RC.of_owns o6).kp kk (fun i hi e => by have := (o6.lt i hi).1; omega)
  have f0 := x6.frozen 0
  have f1 := x6.frozen 1
  have c0 := x6.cell 0 _ rfl
  have c1 := x6.cell 1 _ rfl
  have hl6 := x6.lt
  have d0 := y6.cell 0 _ rfl
  have d1 := y6.cell 1 _ rfl
  have K := hide (refNumber_in Y6 _ L3 0 (b : Int) R6 (by omega) (by omega) (by omega))
  rw [unhide q3] at K
  simp only at K
  replace KB6 := hide KB6
  replace y6 := hide y6
  clear K1 o6 hb kk R6 x6 KB x5 hX5 hn6
  simp only [hqq]
  clear hqq
  go_wp2_with fail
  refine (unhide K).mono ?_
  rintro e W7 ⟨u7, rfl, _, ho, _, hb⟩
  have o7 := ho (by trivial) (by omega)
  obtain ⟨a7, c7, hu7⟩ := owns_form o7
  generalize hn7 : L4.length = n7 at hu7
  subst hu7
  clear c0 c1 f0 f1 hl6 d0 d1 hY6
  have x7 := (unhide y6).below hb
  obtain ⟨Y7, hY7⟩ : ∃ Y, (W7.setCell ⟨q, 0, none⟩ (.slice a7 n7 c7)).setCell ⟨q, 1, none⟩ (.int .i64 0) = Y := ⟨_, rfl⟩
  have y7 : Bx Y7 q 47 #[.slice a7 n7 c7, .int .i64 0] := by
    rw [← hY7]
    have := (x7.set 0 (.slice a7 n7 c7)).set 1 (.int .i64 0)
    simpa using this
  have KB7 : Below W4.heap.size W4 Y7 := by rw [← hY7]; exact bset (bset (bnext (unhide KB6) hb) ⟨q, 0, none⟩ hq _) ⟨q, 1, none⟩ hq _
  have kk : Kp (fun i => i = q) W7 Y7 := by rw [← hY7]; exact (Kp.set (N := fun i => i = q) W7 ⟨q, 0, none⟩ _ rfl).trans (Kp.set (N := fun i => i = q) _ ⟨q, 1, none⟩ _ rfl) (fun i h => .inl h)
  have R7 : RC Y7 (.slice a7 n7 c7) L4.length (bC L4) := (RC.of_owns o7).kp kk (fun i hi e => by have := (o7.lt i hi).1; have := (unhide y6).lt; omega)
  have f0 := x7.frozen 0
  have f1 := x7.frozen 1
  have c0 := x7.cell 0 _ rfl
  have c1 := x7.cell 1 _ rfl
  have hl7 := x7.lt
  have HS7 := hide ((unhide HS).below KB7)
  have C0 : ∀ W', Below Y7.heap.size Y7 W' → W'.cell? ⟨q, 0, none⟩ = some (.slice a7 n7 c7) := fun W' hb => (y7.below hb).cell 0 _ rfl
  have R7' : ∀ W', Below Y7.heap.size Y7 W' → RB W' (.slice a7 n7 c7) L4 := fun W' hb => RC.below R7 hb
  replace C0 := hide C0
  replace R7' := hide R7'
  clear K HS o7 ho hb kk R7 KB6 KB7 x7 y7 y6 hn7
  go_upto_region 11 with fail
  clear f0 f1 c0 c1 hl7 hY7
  have P1 := hide (fun (W' : World) (hb : Below Y7.heap.size Y7 W') => wErr_in ((unhide HS7).wr.below hb))
  have P2 := hide (fun (W' : World) (hb : Below Y7.heap.size Y7 W') => wData_in ((unhide HS7).wr.below hb) (by omega))
  have P3 := hide (fun (W' : World) (hb : Below Y7.heap.size Y7 W') => stands_in ax cx z0 _ _ W' ((unhide HS7).rm.below hb) (((unhide R0).below (unhide HS7).bel).below hb) s0)
  rw [unhide E0] at P3
  go_cut [65] from 49 to 65 (fun v wx => v = .bool false ∧ Hid (WS w wx w.heap.size v4 L4 W1.heap.size ax cx z0))
  case first =>
    refine wp_region_any (by kernel_rfl) ?_
    change wpAny _ _ _ _ _ _ _ (World.drew _)
    refine region_invG 104 (fun j => 49 + j) ((0, (Value.slice a0 len0 cap0)) :: (1, (Value.int IntKind.i64 (a : Int))) :: (2, (Value.int IntKind.i64 (b : Int))) :: (3, undef) :: (4, undef) :: (5, undef) :: (6, (Value.bool false)) :: (7, (Value.pointer (some { block := w.heap.size, off := 0 }))) :: (8, (Value.slice ax len0 cx)) :: (9, (Value.pointer (some { block := q, off := 0 }))) :: (10, undef) :: (11, undef) :: (12, undef) :: (13, undef) :: (14, undef) :: (15, (Value.slice a0 len0 cap0)) :: (16, (Value.int IntKind.i64 (len0 : Int))) :: (17, (Value.bool false)) :: (18, (Value.bool false)) :: (19, (Value.int IntKind.i64 (a : Int))) :: (20, (Value.bool false)) :: (21, (Value.bool false)) :: (22, (Value.bool false)) :: (23, (Value.int IntKind.i64 (b : Int))) :: (24, (Value.bool false)) :: (25, (Value.bool false)) :: (26, undef) :: (27, (Value.agg #[Value.slice none 0 0, Value.int IntKind.i64 0])) :: (28, (Value.pointer (some { block := w.heap.size, off := 0 }))) :: (29, (Value.pointer (some { block := w.heap.size, off := 0 }))) :: (30, (Value.int IntKind.i64 (a : Int))) :: (31, (Value.tuple #[])) :: (32, (Value.slice a0 len0 cap0)) :: (33, (Value.slice ax len0 cx)) :: (34, (Value.pointer (some { block := w.heap.size, off := 0 }))) :: (35, (Value.slice ax len0 cx)) :: (36, (Value.tuple #[])) :: (37, (Value.pointer (some { block := w.heap.size, off := 0 }))) :: (38, (Value.int IntKind.i64 (b : Int))) :: (39, (Value.tuple #[])) :: (40, (Value.agg #[Value.slice none 0 0, Value.int IntKind.i64 0])) :: (41, (Value.int IntKind.i64 (a : Int))) :: (42, (Value.agg #[Value.slice a5 n5 c5, Value.int IntKind.i64 0])) :: (43, (Value.agg #[Value.slice a5 n5 c5, Value.int IntKind.i64 0])) :: (44, (Value.slice a0 len0 cap0)) :: (45, (Value.agg #[Value.slice a6 n6 c6, Value.int IntKind.i64 0])) :: (46, (Value.agg #[Value.slice a6 n6 c6, Value.int IntKind.i64 0])) :: (47, (Value.int IntKind.i64 (b : Int))) :: (48, (Value.agg #[Value.slice a7 n7 c7, Value.int IntKind.i64 0])) :: (66, undef) :: (67, undef) :: (68, undef) :: (69, undef) :: (70, undef) :: (71, undef) :: (72, undef) :: (73, undef) :: (74, undef) :: (75, undef) :: (76, undef) :: (77, undef) :: (78, undef) :: (79, undef) :: (80, undef) :: (81, undef) :: (82, undef) :: (83, undef) :: (84, undef) :: (85, undef) :: (86, undef) :: (87, undef) :: (88, undef) :: (89, undef) :: (90, undef) :: (91, undef) :: (92, undef) :: (93, undef) :: (94, undef) :: (95, undef) :: (96, undef) :: (97, undef) :: (98, undef) :: (99, undef) :: (100, undef) :: (101, undef) :: (102, undef) :: (103, undef) :: [])
      (fun W => Below Y7.heap.size Y7 W)
      (valsOf [isV (Value.pointer (some { block := w.heap.size, off := 0 })), isV (.int .i64 0), isV (.bool false), isV (.bool false), isV (Value.pointer (some { block := w.heap.size, off := 0 })), (fun W v => RB W v L4), isV (.pointer (some ⟨q, 0, none⟩)), isV (.slice a7 n7 c7), isV (.bool true), isV (.bool false), isV (.bool false), isV (.bool false), isV (Value.slice ax len0 cx), isV (Value.slice a0 len0 cap0), isV (.bool true), isV (.bool false), isV (.bool false)])
      (fun w w' => Below w.heap.size w w') ?fit (fun w1 w2 h hG => h.trans (hG.mono h.size)) (valsOf_stable ?stable) (fun _ => true) [(3, false), (11, false)] ?gs ?gv ?steps ?fin _ _ ?sz rfl ?base ?start
    case fit => kernel_rfl
    case sz => rfl
    case gs => kernel_rfl
    case gv => intro p hp w v hv; simp only [List.mem_cons, List.not_mem_nil, or_false] at hp; rcases hp with rfl | rfl <;> exact hv
    case base => intro p hp; repeat (first | (rcases List.mem_cons.1 hp with rfl | hp; · rfl) | cases hp)
    case stable => exact Stables.all (by repeat (first | exact .nil | refine .same ?_ | refine .other (fun w w' v _ hv hG => RC.below hv hG) ?_))
    case start => exact (Below.refl _ _).drew
    case steps =>
      refine .cons (fun ρ wz hρ hJ hb hd => by
        refine Eq.mpr (if_neg (by decide)) ?_
        have dd0 : ρ (.tmp 7) = (Value.pointer (some { block := w.heap.size, off := 0 })) := hb (7, _) (List.mem_of_getElem? (i := 7) rfl)
        exact step_move (.tmp 7) rfl ⟨Below.refl _ _, dd0⟩) ?_
      refine .cons (fun ρ wz hρ hJ hb hd => by
        refine Eq.mpr (if_neg (by decide)) ?_
        have dd0 : ρ (.tmp 49) = (Value.pointer (some { block := w.heap.size, off := 0 })) := hd 0 _ rfl rfl
        refine step_func 33 _ _ #[.pointer (some ⟨w.heap.size, 0, none⟩)] hρ rfl (enters_of Try.func33 (by kernel_rfl) rfl) (by simp [dd0]) ?_
        refine (unhide P1 wz hJ).mono ?_
        rintro r W' ⟨rfl, rfl⟩
        exact ⟨_, rfl, Below.refl _ _, rfl⟩) ?_
      refine .cons (fun ρ wz hρ hJ hb hd => by
        refine Eq.mpr (if_neg (by decide)) ?_
        have dd0 : ρ (.tmp 50) = (.int .i64 0) := hd 0 _ rfl rfl
        exact step_val (v := (.bool false)) (w' := wz) (by simp [go_sem, execOp, dd0, hρ.const]) ⟨Below.refl _ _, rfl⟩) ?_
      refine .cons (fun ρ wz hρ hJ hb hd => by
        refine Eq.mpr (if_neg (by decide)) ?_
        have dd0 : ρ (.tmp 51) = (.bool false) := hd 0 _ rfl rfl
        exact step_move (.tmp 51) rfl ⟨Below.refl _ _, dd0⟩) ?_
      refine .cons (fun ρ wz hρ hJ hb hd => by
        refine Eq.mpr (if_neg (by decide)) ?_
        have dd0 : ρ (.tmp 7) = (Value.pointer (some { block := w.heap.size, off := 0 })) := hb (7, _) (List.mem_of_getElem? (i := 7) rfl)
        exact step_move (.tmp 7) rfl ⟨Below.refl _ _, dd0⟩) ?_
      refine .cons (fun ρ wz hρ hJ hb hd => by
        refine Eq.mpr (if_neg (by decide)) ?_
        have dd0 : ρ (.tmp 53) = (Value.pointer (some { block := w.heap.size, off := 0 })) := hd 0 _ rfl rfl
        refine step_func 35 _ _ #[.pointer (some ⟨w.heap.size, 0, none⟩)] hρ rfl (enters_of Try.func35 (by kernel_rfl) rfl) (by simp [dd0]) ?_
        refine (unhide P2 wz hJ).mono ?_
        rintro r W' ⟨v', rfl, ho, hb2⟩
        exact ⟨_, rfl, hb2, RC.of_owns ho⟩) ?_
      refine .cons (fun ρ wz hρ hJ hb hd => by
        refine Eq.mpr (if_neg (by decide)) ?_
        have dd0 : ρ (.tmp 9) = (Value.pointer (some { block := q, off := 0 })) := hb (9, _) (List.mem_of_getElem? (i := 9) rfl)
        exact step_val (v := (.pointer (some ⟨q, 0, none⟩))) (w' := wz) (by simp [go_sem, execOp, dd0, hρ.const]) ⟨Below.refl _ _, rfl⟩) ?_
      refine .cons (fun ρ wz hρ hJ hb hd => by
        refine Eq.mpr (if_neg (by decide)) ?_
        have dd0 : ρ (.tmp 55) = (.pointer (some ⟨q, 0, none⟩)) := hd 0 _ rfl rfl
        have u0 := unhide C0 wz hJ
        exact step_val (v := (.slice a7 n7 c7)) (w' := wz) (by simp [go_sem, execOp, dd0, u0]) ⟨Below.refl _ _, rfl⟩) ?_
      refine .cons (fun ρ wz hρ hJ hb hd => by
        refine Eq.mpr (if_neg (by decide)) ?_
        have dd0 : (fun W v => RB W v L4) wz (ρ (.tmp 54)) := hd 0 _ rfl rfl
        have dd1 : ρ (.tmp 56) = (.slice a7 n7 c7) := hd 1 _ rfl rfl
        refine step_func 34 _ _ #[ρ (.tmp 54), .slice a7 n7 c7] hρ rfl (enters_of Try.func34 (by kernel_rfl) rfl) (by simp [dd1]) ?_
        refine (bytes_in L4 L4 _ _ wz dd0 (unhide R7' wz hJ) (by omega) (by omega)).mono ?_
        rintro r W' ⟨rfl, kk, rfl⟩
        exact ⟨_, rfl, bdrew (Below.refl _ _) kk, by show _ = _; simp⟩) ?_
      refine .cons (fun ρ wz hρ hJ hb hd => by
        refine Eq.mpr (if_neg (by decide)) ?_
        have dd0 : ρ (.tmp 57) = (.bool true) := hd 0 _ rfl rfl
        exact step_val (v := (.bool false)) (w' := wz) (by simp [go_sem, execOp, dd0, hρ.const]) ⟨Below.refl _ _, rfl⟩) ?_
      refine .cons (fun ρ wz hρ hJ hb hd => by
        refine Eq.mpr (if_neg (by decide)) ?_
        have dd0 : ρ (.tmp 52) = (.bool false) := hd 0 _ rfl rfl
        have dd1 : ρ (.tmp 58) = (.bool false) := hd 1 _ rfl rfl
        exact step_val (v := (.bool false)) (w' := wz) (by simp [go_sem, execOp, dd0, dd1, hρ.const]) ⟨Below.refl _ _, rfl⟩) ?_
      refine .cons (fun ρ wz hρ hJ hb hd => by
        refine Eq.mpr (if_neg (by decide)) ?_
        have dd0 : ρ (.tmp 59) = (.bool false) := hd 0 _ rfl rfl
        exact step_move (.tmp 59) rfl ⟨Below.refl _ _, dd0⟩) ?_
      refine .cons (fun ρ wz hρ hJ hb hd => by
        refine Eq.mpr (if_neg (by decide)) ?_
        have dd0 : ρ (.tmp 8) = (Value.slice ax len0 cx) := hb (8, _) (List.mem_of_getElem? (i := 8) rfl)
        exact step_move (.tmp 8) rfl ⟨Below.refl _ _, dd0⟩) ?_
      refine .cons (fun ρ wz hρ hJ hb hd => by
        refine Eq.mpr (if_neg (by decide)) ?_
        have dd0 : ρ (.tmp 0) = (Value.slice a0 len0 cap0) := hb (0, _) (List.mem_of_getElem? (i := 0) rfl)
        exact step_move (.tmp 0) rfl ⟨Below.refl _ _, dd0⟩) ?_
      refine .cons (fun ρ wz hρ hJ hb hd => by
        refine Eq.mpr (if_neg (by decide)) ?_
        have dd0 : ρ (.tmp 61) = (Value.slice ax len0 cx) := hd 0 _ rfl rfl
        have dd1 : ρ (.tmp 62) = (Value.slice a0 len0 cap0) := hd 1 _ rfl rfl
        refine step_func 28 _ _ #[Value.slice ax len0 cx, Value.slice a0 len0 cap0] hρ rfl (enters_of Try.func28 (by kernel_rfl) rfl) (by simp [dd0, dd1]) ?_
        refine (unhide P3 wz hJ).mono ?_
        rintro r W' ⟨rfl, hb2⟩
        exact ⟨_, rfl, hb2, rfl⟩) ?_
      refine .cons (fun ρ wz hρ hJ hb hd => by
        refine Eq.mpr (if_neg (by decide)) ?_
        have dd0 : ρ (.tmp 63) = (.bool true) := hd 0 _ rfl rfl
        exact step_val (v := (.bool false)) (w' := wz) (by simp [go_sem, execOp, dd0, hρ.const]) ⟨Below.refl _ _, rfl⟩) ?_
      refine .cons (fun ρ wz hρ hJ hb hd => by
        refine Eq.mpr (if_neg (by decide)) ?_
        have dd0 : ρ (.tmp 60) = (.bool false) := hd 0 _ rfl rfl
        have dd1 : ρ (.tmp 64) = (.bool false) := hd 1 _ rfl rfl
        exact step_val (v := (.bool false)) (w' := wz) (by simp [go_sem, execOp, dd0, dd1, hρ.const]) ⟨Below.refl _ _, rfl⟩) (.nil _)
    case fin =>
      intro aQ WQ hsz2 hds hb hJ hv
      obtain ⟨X54, hX54⟩ : ∃ x, aQ.eval (.tmp 54) = x := ⟨_, rfl⟩
      obtain rfl := frame_of (((0, (Value.slice a0 len0 cap0)) :: (1, (Value.int IntKind.i64 (a : Int))) :: (2, (Value.int IntKind.i64 (b : Int))) :: (3, undef) :: (4, undef) :: (5, undef) :: (6, (Value.bool false)) :: (7, (Value.pointer (some { block := w.heap.size, off := 0 }))) :: (8, (Value.slice ax len0 cx)) :: (9, (Value.pointer (some { block := q, off := 0 }))) :: (10, undef) :: (11, undef) :: (12, undef) :: (13, undef) :: (14, undef) :: (15, (Value.slice a0 len0 cap0)) :: (16, (Value.int IntKind.i64 (len0 : Int))) :: (17, (Value.bool false)) :: (18, (Value.bool false)) :: (19, (Value.int IntKind.i64 (a : Int))) :: (20, (Value.bool false)) :: (21, (Value.bool false)) :: (22, (Value.bool false)) :: (23, (Value.int IntKind.i64 (b : Int))) :: (24, (Value.bool false)) :: (25, (Value.bool false)) :: (26, undef) :: (27, (Value.agg #[Value.slice none 0 0, Value.int IntKind.i64 0])) :: (28, (Value.pointer (some { block := w.heap.size, off := 0 }))) :: (29, (Value.pointer (some { block := w.heap.size, off := 0 }))) :: (30, (Value.int IntKind.i64 (a : Int))) :: (31, (Value.tuple #[])) :: (32, (Value.slice a0 len0 cap0)) :: (33, (Value.slice ax len0 cx)) :: (34, (Value.pointer (some { block := w.heap.size, off := 0 }))) :: (35, (Value.slice ax len0 cx)) :: (36, (Value.tuple #[])) :: (37, (Value.pointer (some { block := w.heap.size, off := 0 }))) :: (38, (Value.int IntKind.i64 (b : Int))) :: (39, (Value.tuple #[])) :: (40, (Value.agg #[Value.slice none 0 0, Value.int IntKind.i64 0])) :: (41, (Value.int IntKind.i64 (a : Int))) :: (42, (Value.agg #[Value.slice a5 n5 c5, Value.int IntKind.i64 0])) :: (43, (Value.agg #[Value.slice a5 n5 c5, Value.int IntKind.i64 0])) :: (44, (Value.slice a0 len0 cap0)) :: (45, (Value.agg #[Value.slice a6 n6 c6, Value.int IntKind.i64 0])) :: (46, (Value.agg #[Value.slice a6 n6 c6, Value.int IntKind.i64 0])) :: (47, (Value.int IntKind.i64 (b : Int))) :: (48, (Value.agg #[Value.slice a7 n7 c7, Value.int IntKind.i64 0])) :: (66, undef) :: (67, undef) :: (68, undef) :: (69, undef) :: (70, undef) :: (71, undef) :: (72, undef) :: (73, undef) :: (74, undef) :: (75, undef) :: (76, undef) :: (77, undef) :: (78, undef) :: (79, undef) :: (80, undef) :: (81, undef) :: (82, undef) :: (83, undef) :: (84, undef) :: (85, undef) :: (86, undef) :: (87, undef) :: (88, undef) :: (89, undef) :: (90, undef) :: (91, undef) :: (92, undef) :: (93, undef) :: (94, undef) :: (95, undef) :: (96, undef) :: (97, undef) :: (98, undef) :: (99, undef) :: (100, undef) :: (101, undef) :: (102, undef) :: (103, undef) :: []) ++ ((49, (Value.pointer (some { block := w.heap.size, off := 0 }))) :: (50, (.int .i64 0)) :: (51, (.bool false)) :: (52, (.bool false)) :: (53, (Value.pointer (some { block := w.heap.size, off := 0 }))) :: (54, X54) :: (55, (.pointer (some ⟨q, 0, none⟩))) :: (56, (.slice a7 n7 c7)) :: (57, (.bool true)) :: (58, (.bool false)) :: (59, (.bool false)) :: (60, (.bool false)) :: (61, (Value.slice ax len0 cx)) :: (62, (Value.slice a0 len0 cap0)) :: (63, (.bool true)) :: (64, (.bool false)) :: (65, (.bool false)) :: [])) ((Value.slice a0 len0 cap0) :: (Value.int IntKind.i64 (a : Int)) :: (Value.int IntKind.i64 (b : Int)) :: undef :: undef :: undef :: (Value.bool false) :: (Value.pointer (some { block := w.heap.size, off := 0 })) :: (Value.slice ax len0 cx) :: (Value.pointer (some { block := q, off := 0 })) :: undef :: undef :: undef :: undef :: undef :: (Value.slice a0 len0 cap0) :: (Value.int IntKind.i64 (len0 : Int)) :: (Value.bool false) :: (Value.bool false) :: (Value.int IntKind.i64 (a : Int)) :: (Value.bool false) :: (Value.bool false) :: (Value.bool false) :: (Value.int IntKind.i64 (b : Int)) :: (Value.bool false) :: (Value.bool false) :: undef :: (Value.agg #[Value.slice none 0 0, Value.int IntKind.i64 0]) :: (Value.pointer (some { block := w.heap.size, off := 0 })) :: (Value.pointer (some { block := w.heap.size, off := 0 })) :: (Value.int IntKind.i64 (a : Int)) :: (Value.tuple #[]) :: (Value.slice a0 len0 cap0) :: (Value.slice ax len0 cx) :: (Value.pointer (some { block := w.heap.size, off := 0 })) :: (Value.slice ax len0 cx) :: (Value.tuple #[]) :: (Value.pointer (some { block := w.heap.size, off := 0 })) :: (Value.int IntKind.i64 (b : Int)) :: (Value.tuple #[]) :: (Value.agg #[Value.slice none 0 0, Value.int IntKind.i64 0]) :: (Value.int IntKind.i64 (a : Int)) :: (Value.agg #[Value.slice a5 n5 c5, Value.int IntKind.i64 0]) :: (Value.agg #[Value.slice a5 n5 c5, Value.int IntKind.i64 0]) :: (Value.slice a0 len0 cap0) :: (Value.agg #[Value.slice a6 n6 c6, Value.int IntKind.i64 0]) :: (Value.agg #[Value.slice a6 n6 c6, Value.int IntKind.i64 0]) :: (Value.int IntKind.i64 (b : Int)) :: (Value.agg #[Value.slice a7 n7 c7, Value.int IntKind.i64 0]) :: (Value.pointer (some { block := w.heap.size, off := 0 })) :: (.int .i64 0) :: (.bool false) :: (.bool false) :: (Value.pointer (some { block := w.heap.size, off := 0 })) :: X54 :: (.pointer (some ⟨q, 0, none⟩)) :: (.slice a7 n7 c7) :: (.bool true) :: (.bool false) :: (.bool false) :: (.bool false) :: (Value.slice ax len0 cx) :: (Value.slice a0 len0 cap0) :: (.bool true) :: (.bool false) :: (.bool false) :: undef :: undef :: undef :: undef :: undef :: undef :: undef :: undef :: undef :: undef :: undef :: undef :: undef :: undef :: undef :: undef :: undef :: undef :: undef :: undef :: undef :: undef :: undef :: undef :: undef :: undef :: undef :: undef :: undef :: undef :: undef :: undef :: undef :: undef :: undef :: undef :: undef :: undef :: []) hsz2 hds (fun p hp => by
        rcases List.mem_append.1 hp with h | h
        · exact hb p h
        · simp only [List.mem_cons, List.not_mem_nil, or_false] at h
          rcases h with rfl | rfl | rfl | rfl | rfl | rfl | rfl | rfl | rfl | rfl | rfl | rfl | rfl | rfl | rfl | rfl | rfl
          · exact hv 0 (by decide)
          · exact hv 1 (by decide)
          · exact hv 2 (by decide)
          · exact hv 3 (by decide)
          · exact hv 4 (by decide)
          · exact hX54
          · exact hv 6 (by decide)
          · exact hv 7 (by decide)
          · exact hv 8 (by decide)
          · exact hv 9 (by decide)
          · exact hv 10 (by decide)
          · exact hv 11 (by decide)
          · exact hv 12 (by decide)
          · exact hv 13 (by decide)
          · exact hv 14 (by decide)
          · exact hv 15 (by decide)
          · exact hv 16 (by decide)) rfl
      clear hb hds hsz2 hX54
      clear hv
      go_wp2
      go_meet
      case rel => exact ⟨rfl, hide ((unhide HS7).below hJ)⟩
  case rest =>
    obtain ⟨rfl, HS⟩ := hcut
    clear HS7 C0 R7' P1 P2 P3
    have K := hide (wData_in (unhide HS).wr (by omega))
    go_wp2_with fail
    refine (unhide K).mono ?_
    rintro e W9 ⟨v9, rfl, o9, hb⟩
    obtain ⟨a9, c9, hv9⟩ := owns_form o9
    generalize L4.length = n9 at hv9
    subst hv9
    replace HS := hide ((unhide HS).below hb)
    have HBy := hide (show ∀ x ∈ L4, x < 256 from fun x hx => by
      have hpb : ∀ y ∈ pb d, y < 256 := fun y hy => by
        unfold pb at hy
        obtain ⟨t, ht, hy⟩ := List.mem_flatMap.1 hy
        have ht2 : t ∈ vec (sy z0) := by rw [unhide hd]; exact ht
        have := vec_in (unhide HG) ht2
        rcases List.mem_append.1 hy with h | h
        · exact num_lt _ (by omega) y h
        · exact num_lt _ (by omega) y h
      rw [← unhide hL4, ← unhide hL3] at hx
      simp only [List.mem_append] at hx
      rcases hx with ((h | h) | h) | h
      · exact num_lt _ (by omega) x h
      · exact num_lt _ (by omega) x h
      · exact hpb x h
      · exact num_lt _ (by omega) x h)
    have K2 := hide (rRead_in W9 _ L4 (RC.of_owns o9) (unhide HBy) (by omega))
    clear K hb o9
    go_wp2_with fail
    refine (unhide K2).mono ?_
    rintro e W10 ⟨p2, v10, rfl, rd, hb, hp2, hv10⟩
    have KD := hide hb
    have eL : L4 = num a ++ (num d.length ++ pb d ++ num b) := by rw [← unhide hL4, ← unhide hL3]; simp
    have t1 : rNum L4 0 = (a, num d.length ++ pb d ++ num b, 0) := by rw [eL]; exact rNum_num (by omega) _
    have t2 : rNum (num b) 0 = (b, [], 0) := by have := rNum_num (n := b) (by omega) []; rwa [List.append_nil] at this
    have t3 := unhide HDt (num b)
    have K := hide (rNumber_in rd)
    rw [t1] at K
    simp only at K
    replace t2 := hide t2
    replace t3 := hide t3
    clear K2 rd hb hv10 eL t1
    go_wp2_with fail
    refine (unhide K).mono ?_
    rintro e W11 ⟨rfl, v11, rd, hk, _⟩
    replace KD := hide (hk.below (unhide KD) (fun i hi => by omega))
    have hpw : p2 < W11.heap.size := rd.box.lt
    have K2 := hide (Take_in (st := (num d.length ++ pb d ++ num b, 0)) rd)
    rw [unhide t3] at K2
    simp only at K2
    clear K rd hk
    go_wp2_with fail
    refine (unhide K2).mono ?_
    rintro e W12 ⟨v12, rfl, o12, v12', rd, hk, _⟩
    replace KD := hide (hk.below (unhide KD) (fun i hi => by omega))
    obtain ⟨a12, c12, hv12⟩ := o12.form
    have K := hide (rNumber_in rd)
    rw [unhide t2] at K
    simp only at K
    obtain ⟨n12, hn12⟩ : ∃ n, d.length = n := ⟨_, rfl⟩
    rw [hn12] at hv12
    subst hv12
    have O12 := hide o12
    clear K2 rd hk o12 hn12
    go_wp2_with fail
    refine (unhide K).mono ?_
    rintro e W13 ⟨rfl, v13, rd, hk, _⟩
    replace KD := hide (hk.below (unhide KD) (fun i hi => by omega))
    have R12 : Hid (RI W13 (.slice a12 n12 c12) d) := RC.kp (unhide O12).row hk (fun i hi e => by have := ((unhide O12).lt i hi).1; omega)
    have K2 := hide (rEnd_in rd)
    rw [show rEnd [] 0 = 0 by unfold rEnd; simp] at K2
    replace HS := hide ((unhide HS).below (unhide KD))
    clear K rd hk O12 KD
    go_wp2_with fail
    refine (unhide K2).mono ?_
    rintro e W14 ⟨rfl, rfl⟩
    have K := hide (refMerge_in _ _ z0 [] W13 ((unhide R0).below (unhide HS).bel) (RC.nil _ none 0) l0 (by simp))
    have em : mrg (sy z0) (sy []) = sy z0 := funext fun i => by have := (unhide HG).lo i; simp only [mrg, sy_nil]; omega
    rw [em, unhide hd] at K
    clear K2 em
    go_wp2_with fail
    refine (unhide K).mono ?_
    rintro e W15 ⟨v15, rfl, o15, hb⟩
    obtain ⟨a15, c15, hv15⟩ := o15.form
    have R15 := o15.row
    rw [hv15] at R15
    generalize d.length = n15 at hv15 R15
    subst hv15
    have K2 := hide (Same_in d d _ _ W15 ((unhide R12).below hb) R15 (by omega) (by omega))
    rw [show decide (d = d) = true by simp] at K2
    replace HS := hide ((unhide HS).below hb)
    clear K o15 hb R15
    go_wp2_with fail
    refine (unhide K2).mono ?_
    rintro e W16 ⟨rfl, kk, hkk⟩
    have B16 := hide (show Below w.heap.size w W16 by rw [hkk]; exact bdrew (unhide HS).bel kk)
    have K := hide (known_in W16)
    clear K2 hkk
    go_wp2_with fail
    refine (unhide K).mono ?_
    rintro e W17 ⟨rfl, hb⟩
    replace B16 := hide (bnext (unhide B16) hb)
    clear K hb
    go_wp2
    go_ret
    exact ⟨rfl, unhide B16⟩

theorem own : ownKnob Try.prog.godebug = none := by kernel_rfl
theorem laidOut2 : laidOutB Try.prog = true := by kernel_rfl

set_option maxRecDepth 100000 in
theorem lifted (os : Os) (started : os.Started) (H : Type) (enc : TypeId × Value → H) :
    ReturnsInHanded {} Try.checked os 4 .any (Rows.vectorPutsSpec.pre6 enc Try.prog Try.f4 Rows.vectorPutsRow.domain false) (Rows.vectorPutsSpec.post enc Try.prog Try.f4 false true false false) := by
  refine returnsInHanded_of_change (C := Try.checked) own started (by kernel_rfl) Try.func4
    (ChangeSpec.witness6 (enc := enc) (C := Try.checked) false ⟨#[], #[.slice none 0 0, .int .i64 0, .int .i64 0], []⟩ 8 (by kernel_rfl) (by kernel_rfl) (by kernel_rfl) (by kernel_rfl)) ?_
  intro W base args ds gs before hval0 hW hcnd _
  have hval : ∀ (j : Nat) t v, Try.f4.params[j]? = some t → args[j]? = some v → Value.okWide Try.prog W .any base t v := hval0
  have hW' := hW
  obtain ⟨p, q, hA0, hV, rfl, hfz, hnd⟩ := hW
  have hA : DataW.TrodAll enc Try.prog W 0 (fun _ => true) true Try.f4.params.toList args.toList ds p := hA0
  rw [Try.params4] at hA hval
  obtain ⟨v0, vs0, d0, ds0, p0, q0, hargs, rfl, rfl, h0, r0⟩ := trodAll_cons hA
  obtain ⟨v1, vs1, d1, ds1, p1, q1, rfl, rfl, rfl, h1, r1⟩ := trodAll_cons r0
  obtain ⟨v2, vs2, d2, ds2, p2, q2, rfl, rfl, rfl, h2, r2⟩ := trodAll_cons r1
  obtain ⟨rfl, rfl, rfl⟩ := trodAll_nil r2
  obtain rfl : args = #[v0, v1, v2] := by cases args; simp_all
  obtain ⟨rfl, rfl⟩ := trodVars_none hV
  obtain ⟨a0, len0, cap0, rfl⟩ := okWide_slice Try.underlying23 (hval 0 23 v0 rfl rfl)
  have k0 := h0
  have lt0 : ∀ x ∈ p0, x.block < W.heap.size := by obtain ⟨m, hm⟩ := k0; exact DataW.trod_lt m _ _ _ hm
  obtain ⟨z0, w0⟩ : ∃ l : List (Int × Int), RI W (.slice a0 len0 cap0) l ∧ l.length = len0 ∧ len0 ≤ maxLen ∧ ∀ e ∈ l, idIn e := by
    obtain ⟨fuel, hf⟩ := h0
    simp only [Value.cells] at hf
    exact open_dots hf
  obtain ⟨a1, rfl, rfl, rfl, w1⟩ := open_int Try.underlying3 (hval 1 3 v1 rfl rfl) h1
  obtain ⟨a2, rfl, rfl, rfl, w2⟩ := open_int Try.underlying3 (hval 2 3 v2 rfl rfl) h2
  clear hA0 hval0
  refine (walk a0 len0 cap0 z0 a1 a2 W w0 w1 w2).mono fun e W' ⟨he, bel⟩ => ?_
  subst he
  exact ⟨_, rfl, _, _, _, [], _, [], hW', trodAll_mk1 (shut_bool Try.underlying4 _), (trodAll_cons_mk (Below.trod laidOut2 (by kernel_rfl) (of_decide_eq_true (by kernel_rfl)) k0 bel lt0) (trodAll_cons_mk (shut_int Try.underlying3 w1) (trodAll_cons_mk (shut_int Try.underlying3 w2) trodAll_mk0))), rfl, bel.frame _, fun h => by cases h⟩

theorem over : Rows.vectorPutsRow.holds Try.pinned (OpenSpec.ofChange Rows.vectorPutsSpec) :=
  OpenClaim.holds_of_wide 4 Try.f4 rfl rfl rfl rfl rfl rfl rfl ⟨rfl, rfl, rfl, rfl, rfl⟩ rfl rfl rfl rfl rfl (by kernel_rfl) Try.func4 (by kernel_rfl)
    (of_decide_eq_true (by kernel_rfl)) (by unfold Func.isWrapper; first | (rw [if_pos (by decide +kernel)]; kernel_rfl) | (rw [if_neg (by decide +kernel)]; exact ⟨rfl, rfl⟩))
    (fun os started H enc _ => lifted os started H enc)

end LVectorPuts

theorem vectorPuts_holds : Rows.VectorPutsSaid := LVectorPuts.over

end Go.Proofs.Ytmjhkgpbemjjkaa
