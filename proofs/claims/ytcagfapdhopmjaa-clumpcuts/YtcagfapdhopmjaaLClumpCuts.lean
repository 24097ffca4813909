/-
  Chapter 2's law ClumpCuts returns true for every two texts and every number, and leaves its arguments as they were; no condition.
-/
import Derived.Test.YtcagfapdhopmjaaRows
import Derived.WalkKit
import Derived.ProofKit
import Derived.OpenShut
import Derived.ShutString
import Derived.ChangeOld
import Derived.Below
import Derived.Test.YtcagfapdhopmjaaKno
import Derived.Test.YtcagfapdhopmjaaSlc
import Derived.Test.YtcagfapdhopmjaaRegB
import Derived.Lib.Strings
set_option linter.unusedVariables false
set_option linter.unusedSimpArgs false
namespace Go.Proofs.Ytcagfapdhopmjaa
namespace LClumpCuts
open Go.ChangeShapes Go.WideShapes Go.ChangeAt Go.RowKit Go.Lib
open Go.ChangeMaps (open_string shut_string)

theorem prv_in (l : List Nat) (a : Int) : prv l a = 0 ∨ prv l a ∈ l := by
  refine snoc_ind (p := fun l => prv l a = 0 ∨ prv l a ∈ l) (.inl rfl) (fun l k h => ?_) l
  rw [prv_snoc]
  split
  · right; simp
  · rcases h with h | h
    · exact .inl h
    · right; simp [h]
theorem prv_brL (s : ByteArray) (a : Int) : prv (brL s) a ∈ brL s := by
  rcases prv_in (brL s) a with h | h
  · rw [h]; exact zero_brL s
  · exact h

set_option maxRecDepth 100000 in
set_option maxHeartbeats 16000000 in
theorem walk (a0 : ByteArray) (a1 : Int) (a2 : ByteArray) (w0 : a0.size ≤ maxLen) (w1 : (Lit.int .i64 a1).wf = true) (w2 : a2.size ≤ maxLen) (w : World) :
    Calls Try.prog 8 #[.string a0, .int .i64 a1, .string a2] w fun e w' => e = .returned (.bool true) ∧ Below w.heap.size w w' := by
  unfold maxLen at w0 w2
  have hb64 := Go.bounds_i64 w1
  by_cases hbig : 4000 < a0.size
  · go_enter Try.func8, Try.ntmps8
    go_wp2_with (go_at_call 9; refine (known_in _).mono ?_; rintro e w' ⟨rfl, hB⟩)
    go_ret
    exact ⟨rfl, hB⟩
  · have hd0 : decide ((4000 : Int) < (a0.size : Int)) = false := by simp; omega
    by_cases hbig2 : 4000 < a2.size
    · have hd1 : decide ((4000 : Int) < (a2.size : Int)) = true := by simp; omega
      go_enter Try.func8, Try.ntmps8
      go_wp2_with (go_at_call 9; refine (known_in _).mono ?_; rintro e w' ⟨rfl, hB⟩)
      go_ret
      exact ⟨rfl, hB⟩
    · have hd1 : decide ((4000 : Int) < (a2.size : Int)) = false := by simp; omega
      have hs : a0.size ≤ 140737488355328 := by omega
      go_enter Try.func8, Try.ntmps8
      go_wp2_with fail
      refine (prev_in _ _ hs _).mono ?_
      rintro e W1 ⟨rfl, hB1⟩
      have hp := prv_brL a0 a1
      generalize prv (brL a0) a1 = p at hp ⊢
      have hps := brL_le hp
      have hcut := hide (tx_cut hp)
      clear hp
      have i1 : decide ((p : Int) < 0) = false := by simp
      have i2 : ¬ (a0.size : Int) < (p : Int) := by omega
      have i3 : (p : Int) ≤ (a0.size : Int) := by omega
      have i4 : (0 : Int) ≤ (p : Int) := by omega
      go_wp2_with fail
      refine (parts_S a0 (by omega) _).mono ?_
      rintro e W2 ⟨x2, LA, c2, rfl, R2, HA, cA2, l0, b2⟩
      have hB2 := hB1.trans (b2.mono hB1.size)
      go_wp2_with fail
      refine (parts_S (a0.extract 0 p) (by rw [size_ext a0 0 p hps]; omega) _).mono ?_
      rintro e W3 ⟨x3, L3, c3, rfl, R3, H3, c33, l1, b3⟩
      rw [size_ext a0 0 p hps] at l1
      have hB3 := hB2.trans (b3.mono hB2.size)
      have R2 := hide ((unhide R2).below b3)
      go_wp2_with fail
      refine (parts_S (a0.extract p a0.size) (by rw [size_ext a0 p a0.size (Nat.le_refl _)]; omega) _).mono ?_
      rintro e W4 ⟨x4, L4, c4, rfl, R4, H4, c44, l2, b4⟩
      rw [size_ext a0 p a0.size (Nat.le_refl _)] at l2
      have hB4 := hB3.trans (b4.mono hB3.size)
      have R2' := hide ((unhide R2).below b4)
      have R3' := hide ((unhide R3).below b4)
      have R4' := R4
      have l3' := unhide H3
      have l4' := unhide H4
      have l1' : (tx (a0.extract 0 p)).length ≤ p := by omega
      have l2' : (tx (a0.extract p a0.size)).length ≤ a0.size := by omega
      clear b2 b3 b4 hB1 hB2 hB3 R2 R3 R4 l3' l4'
      have o5 : (W4.alloc (.cells #[] 9)).ownsRow W4.heap.size 9 1 (.slice (some ⟨W4.heap.size, 0, none⟩) 0 0) ([] : List ByteArray).length (([] : List ByteArray).map Value.string) := ⟨rfl, .inr ⟨W4.heap.size, 0, #[], rfl, Nat.le_refl _, World.alloc_heap_new W4 _, Nat.le_refl _, by unfold maxLen; omega, rfl, rfl⟩⟩
      have b5 : Below W4.heap.size W4 (W4.alloc (.cells #[] 9)) := (Below.refl _ W4).alloc (Nat.le_refl _) _
      have O5 := hide o5
      have n5 : Value.slice (some ⟨W4.heap.size, 0, none⟩) 0 0 ≠ .slice none 0 0 := by simp
      have N5 := hide n5
      clear o5 n5
      go_wp2_with (first | (at_builtin; refine wpList_append_S rfl _ _ rfl W4.heap.size (.slice (some ⟨W4.heap.size, 0, none⟩) 0 0) [] rfl (unhide O5) (unhide N5) (.slice x3 L3 c3) (tx (a0.extract 0 p)) rfl ((unhide R3').below b5) b5.size (by simp; omega) ?_; intro v6 W6 o6 g6 n6; have b6 := b5.grown g6 b5.size (fun k e => by simp [Value.ownBlock] at e; omega); have O6 := hide o6; have N6 := hide n6; clear o6 n6 g6 O5 N5 b5) | (at_builtin; refine wpList_append_S rfl _ _ rfl W4.heap.size v6 ([] ++ tx (a0.extract 0 p)) rfl (unhide O6) (unhide N6) (.slice x4 L4 c4) (tx (a0.extract p a0.size)) rfl ((unhide R4').below b6) b6.size (by simp; omega) ?_; intro v7 W7 o7 g7 n7; have b7 := b6.grown g7 b6.size (fun k e => ((unhide O6).lt k e).1); have O7 := hide o7; clear o7 n7 g7 O6 N6 b6))
      have e7 : [] ++ tx (a0.extract 0 p) ++ tx (a0.extract p a0.size) = tx a0 := by rw [List.nil_append, ← unhide hcut]
      have R7 := unhide O7
      rw [e7] at R7
      refine (same_in _ _ (tx a0) (by rw [← unhide HA]; omega) _ ((unhide R2').below b7) (rowS_owns R7)).mono ?_
      clear R7 e7 O7
      rintro e W8 ⟨rfl, b8⟩
      have b48 := b7.trans (b8.mono b7.size)
      have hB8 := hB4.trans (b48.mono hB4.size)
      have R8 := (unhide R2').below b48
      clear R2' R3' R4' b7 b8 hB4 l1 l2 hcut l1' l2' H3 H4
      obtain ⟨u, hu⟩ : ∃ u, a0 ++ ⟨#[10]⟩ ++ a2 = u := ⟨_, rfl⟩
      have huz : u.size = a0.size + 1 + a2.size := by rw [← hu, ByteArray.size_append, ByteArray.size_append]; rfl
      have hnl := fun n hn => tx_nl a0 a2 n hn
      rw [show a0 ++ nl ++ a2 = u from hu] at hnl
      have HNL := hide hnl
      clear hnl
      have R8' := hide R8
      clear R8
      go_wp2_with fail
      clear hu
      refine (parts_S u (by omega) _).mono ?_
      rintro e W9 ⟨x9, LU, c9, rfl, R9', HU, cU, lU, b9⟩
      have hB9 := hB8.trans (b9.mono hB8.size)
      go_wp2_with fail
      refine (parts_S a2 (by omega) _).mono ?_
      rintro e WA ⟨xA, LD, cA, rfl, QD, HD, cD, lD, bA⟩
      have hBA := hB9.trans (bA.mono hB9.size)
      have QL : Hid (RowS WA (.slice x2 LA c2) (tx a0)) := hide (((unhide R8').below b9).below bA)
      have QC : Hid (RowS WA (.slice x9 LU c9) (tx u)) := hide ((unhide R9').below bA)
      clear R8' R9' b9 bA hB8 hB9
      by_cases hcr : 0 < a0.size ∧ by_ a0 (a0.size - 1) = 13
      · have hL0 : 0 < LA := by
          rw [unhide HA]
          rcases Nat.eq_zero_or_pos (tx a0).length with h | h
          · exfalso
            rw [tx_length] at h
            have h2 := cp_end a0
            rw [List.length_eq_zero_iff.1 h] at h2
            have : (0 : Nat) = a0.size := h2
            omega
          · exact h
        obtain ⟨n, k6⟩ : ∃ n : Nat, (LA : Int) - 1 = (n : Int) := ⟨LA - 1, by omega⟩
        have hM := unhide HNL n (by rw [if_pos hcr, ← unhide HA]; omega)
        rw [← unhide HA, ← unhide HU, ← unhide HD] at hM
        have HM := hide hM
        have k1 : (0 : Int) < (a0.size : Int) := by omega
        have k2 : (0 : Int) ≤ (a0.size : Int) - 1 := by omega
        have k3 : (a0.size : Int) - 1 < (a0.size : Int) := by omega
        have k4 : ((a0.size : Int) - 1).toNat = a0.size - 1 := by omega
        have k0 : a0.size - 1 < a0.size := by omega
        have k5 := by_get a0 (a0.size - 1) k0
        rw [hcr.2] at k5
        clear hM hcr
        go_wp2
        obtain ⟨m1, m2, m3, m4⟩ := unhide HM
        have e1 : (LU : Int) = (n : Int) + 1 + (LD : Int) := by omega
        obtain ⟨y9, hy9⟩ : ∃ y9, (if c9 = n + 1 then x9 else x9.map (·.add (n + 1))) = y9 := ⟨_, rfl⟩
        have P1 := (unhide QC).take (n := n) (by rw [← unhide HU]; omega)
        rw [m3] at P1
        have P2 := (unhide QL).take (n := n) (by rw [← unhide HA]; omega)
        have P3 := (unhide QC).drop (n := n + 1) (by rw [← unhide HU]; omega) cU
        rw [hy9, m4] at P3
        have hsA := hBA.size
        refine wp_region_any (by kernel_rfl) ?_
        change wpAny _ _ _ _ _ _ _ (World.drew _)
        refine region_invB 139 (fun j => 103 + j) [(0, (Value.string a0)), (1, (Value.int IntKind.i64 ↑p)), (2, (Value.string a2)), (3, undef), (4, undef), (5, undef), (6, (Value.bool false)), (7, (Value.slice x2 LA c2)), (8, (Value.bool true)), (9, (Value.slice x3 L3 c3)), (10, (Value.bool true)), (11, (Value.slice x4 L4 c4)), (12, (Value.bool true)), (13, (Value.slice x9 LU c9)), (14, (Value.slice xA LD cA)), (15, (Value.int IntKind.i64 ↑n)), (16, (Value.string a0)), (17, (Value.int IntKind.i64 ↑a0.size)), (18, (Value.bool false)), (19, (Value.bool false)), (20, (Value.string a2)), (21, (Value.int IntKind.i64 ↑a2.size)), (22, (Value.bool false)), (23, (Value.bool false)), (24, undef), (25, (Value.string a0)), (26, (Value.int IntKind.i64 a1)), (27, (Value.int IntKind.i64 ↑p)), (28, (Value.int IntKind.i64 ↑p)), (29, (Value.bool false)), (30, (Value.bool false)), (31, (Value.int IntKind.i64 ↑p)), (32, (Value.string a0)), (33, (Value.int IntKind.i64 ↑a0.size)), (34, (Value.bool false)), (35, (Value.bool false)), (36, (Value.tuple #[Value.slice x2 LA c2, Value.bool true])), (37, (Value.string a0)), (38, (Value.tuple #[Value.slice x2 LA c2, Value.bool true])), (39, (Value.slice x2 LA c2)), (40, (Value.bool true)), (41, (Value.tuple #[Value.slice x3 L3 c3, Value.bool true])), (42, (Value.string a0)), (43, (Value.int IntKind.i64 ↑p)), (44, (Value.string (a0.extract 0 p))), (45, (Value.tuple #[Value.slice x3 L3 c3, Value.bool true])), (46, (Value.slice x3 L3 c3)), (47, (Value.bool true)), (48, (Value.tuple #[Value.slice x4 L4 c4, Value.bool true])), (49, (Value.string a0)), (50, (Value.int IntKind.i64 ↑p)), (51, (Value.string (a0.extract p a0.size))), (52, (Value.tuple #[Value.slice x4 L4 c4, Value.bool true])), (53, (Value.slice x4 L4 c4)), (54, (Value.bool true)), (55, (Value.bool true)), (56, (Value.bool false)), (57, (Value.bool false)), (58, (Value.bool true)), (59, (Value.bool false)), (60, (Value.bool false)), (61, (Value.bool false)), (62, (Value.bool true)), (63, (Value.bool false)), (64, (Value.bool false)), (65, (Value.bool false)), (66, (Value.slice x2 LA c2)), (67, (Value.slice (some { block := W4.heap.size, off := 0 }) 0 0)), (68, (Value.slice x3 L3 c3)), (69, v6), (70, (Value.slice x4 L4 c4)), (71, v7), (72, (Value.bool true)), (73, (Value.bool false)), (74, (Value.bool false)), (75, (Value.tuple #[Value.slice x9 LU c9, Value.bool true])), (76, (Value.string a0)), (77, (Value.string (a0 ++ { data := #[10] }))), (78, (Value.string a2)), (79, (Value.string u)), (80, (Value.tuple #[Value.slice x9 LU c9, Value.bool true])), (81, (Value.slice x9 LU c9)), (82, (Value.bool true)), (83, (Value.tuple #[Value.slice xA LD cA, Value.bool true])), (84, (Value.string a2)), (85, (Value.tuple #[Value.slice xA LD cA, Value.bool true])), (86, (Value.slice xA LD cA)), (87, (Value.bool true)), (88, (Value.slice x2 LA c2)), (89, (Value.int IntKind.i64 ↑LA)), (90, (Value.string a0)), (91, (Value.int IntKind.i64 ↑a0.size)), (92, (Value.bool true)), (93, (Value.bool true)), (94, (Value.string a0)), (95, (Value.string a0)), (96, (Value.int IntKind.i64 ↑a0.size)), (97, (Value.int IntKind.i64 (↑a0.size - 1))), (98, (Value.int IntKind.u8 13)), (99, (Value.bool true)), (100, (Value.bool true)), (101, (Value.int IntKind.i64 ↑LA)), (102, (Value.int IntKind.i64 ↑n)), (138, undef)] (fun W' => Below WA.heap.size WA W') (valsOf [isV ((Value.bool true)), isV ((.bool false)), isV ((.bool false)), isV ((Value.bool true)), isV ((.bool false)), isV ((.bool false)), isV ((.bool false)), isV ((Value.slice x9 LU c9)), isV ((.int .i64 (LU : Int))), isV ((Value.int IntKind.i64 ↑n)), isV ((.int .i64 ((n : Int) + 1))), isV ((Value.slice xA LD cA)), isV ((.int .i64 (LD : Int))), isV ((.int .i64 ((n : Int) + 1 + (LD : Int)))), isV ((.bool false)), isV ((.bool false)), isV ((.bool false)), isV ((Value.slice x9 LU c9)), isV ((Value.int IntKind.i64 ↑n)), isV ((.slice x9 n c9)), isV ((Value.slice x2 LA c2)), isV ((Value.int IntKind.i64 ↑n)), isV ((.slice x2 n c2)), isV ((.bool true)), isV ((.bool false)), isV ((.bool false)), isV ((.bool false)), isV ((Value.slice x9 LU c9)), isV ((Value.int IntKind.i64 ↑n)), isV ((.int .i64 ((n + 1 : Nat) : Int))), isV ((.slice y9 (LU - (n + 1)) (c9 - (n + 1)))), isV ((Value.slice xA LD cA)), isV ((.bool true)), isV ((.bool false)), isV ((.bool false))]) (fun w w' => Below w.heap.size w w') ?fit1 (fun w1 w2 h hG => h.trans (hG.mono h.size)) (valsOf_stable ?stable1) [(2, false), (6, false), (16, false), (26, false)] ?gs1 ?gv1 ?steps1 ?fin1 _ _ ?sz1 rfl ?base1 ((Below.refl _ _).drew)
        case fit1 => kernel_rfl
        case sz1 => rfl
        case gs1 => kernel_rfl
        case gv1 => intro p hp w v hv; simp only [List.mem_cons, List.not_mem_nil, or_false] at hp; rcases hp with rfl | rfl | rfl | rfl <;> exact hv
        case base1 => intro p hp; repeat (first | (rcases List.mem_cons.1 hp with rfl | hp; · rfl) | cases hp)
        case stable1 => exact Stables.all (by repeat (first | exact .nil | refine .same ?_))
        case steps1 =>
          refine .cons (fun ρ w hρ hJ hb hd => by
            have d0 : ρ (.tmp 8) = (Value.bool true) := hb (8, _) (List.mem_of_getElem? (i := 8) rfl)
            exact step_move (.tmp 8) rfl ⟨Below.refl _ _, d0⟩) ?_
          refine .cons (fun ρ w hρ hJ hb hd => by
            have d0 : ρ (.tmp 103) = (Value.bool true) := hd 0 _ rfl rfl
            exact step_val (v := (.bool false)) (w' := w) (by simp [go_sem, execOp, d0, hρ.const]) ⟨Below.refl _ _, rfl⟩) ?_
          refine .cons (fun ρ w hρ hJ hb hd => by
            have d0 : ρ (.tmp 104) = (.bool false) := hd 0 _ rfl rfl
            exact step_move (.tmp 104) rfl ⟨Below.refl _ _, d0⟩) ?_
          refine .cons (fun ρ w hρ hJ hb hd => by
            have d0 : ρ (.tmp 10) = (Value.bool true) := hb (10, _) (List.mem_of_getElem? (i := 10) rfl)
            exact step_move (.tmp 10) rfl ⟨Below.refl _ _, d0⟩) ?_
          refine .cons (fun ρ w hρ hJ hb hd => by
            have d0 : ρ (.tmp 106) = (Value.bool true) := hd 0 _ rfl rfl
            exact step_val (v := (.bool false)) (w' := w) (by simp [go_sem, execOp, d0, hρ.const]) ⟨Below.refl _ _, rfl⟩) ?_
          refine .cons (fun ρ w hρ hJ hb hd => by
            have d0 : ρ (.tmp 105) = (.bool false) := hd 0 _ rfl rfl
            have d1 : ρ (.tmp 107) = (.bool false) := hd 1 _ rfl rfl
            exact step_val (v := (.bool false)) (w' := w) (by simp [go_sem, execOp, d0, d1, hρ.const]) ⟨Below.refl _ _, rfl⟩) ?_
          refine .cons (fun ρ w hρ hJ hb hd => by
            have d0 : ρ (.tmp 108) = (.bool false) := hd 0 _ rfl rfl
            exact step_move (.tmp 108) rfl ⟨Below.refl _ _, d0⟩) ?_
          refine .cons (fun ρ w hρ hJ hb hd => by
            have d0 : ρ (.tmp 13) = (Value.slice x9 LU c9) := hb (13, _) (List.mem_of_getElem? (i := 13) rfl)
            exact step_move (.tmp 13) rfl ⟨Below.refl _ _, d0⟩) ?_
          refine .cons (fun ρ w hρ hJ hb hd => by
            have d0 : ρ (.tmp 110) = (Value.slice x9 LU c9) := hd 0 _ rfl rfl
            exact step_val (v := (.int .i64 (LU : Int))) (w' := w) (by simp [go_sem, execOp, d0, hρ.const]) ⟨Below.refl _ _, rfl⟩) ?_
          refine .cons (fun ρ w hρ hJ hb hd => by
            have d0 : ρ (.tmp 15) = (Value.int IntKind.i64 ↑n) := hb (15, _) (List.mem_of_getElem? (i := 15) rfl)
            exact step_move (.tmp 15) rfl ⟨Below.refl _ _, d0⟩) ?_
          refine .cons (fun ρ w hρ hJ hb hd => by
            have d0 : ρ (.tmp 112) = (Value.int IntKind.i64 ↑n) := hd 0 _ rfl rfl
            refine step_val (v := (.int .i64 ((n : Int) + 1))) (w' := w) ?_ ⟨Below.refl _ _, rfl⟩
            simp [go_sem, execOp, d0, hρ.const]
            exact wrap_small (by omega) (by omega)) ?_
          refine .cons (fun ρ w hρ hJ hb hd => by
            have d0 : ρ (.tmp 14) = (Value.slice xA LD cA) := hb (14, _) (List.mem_of_getElem? (i := 14) rfl)
            exact step_move (.tmp 14) rfl ⟨Below.refl _ _, d0⟩) ?_
          refine .cons (fun ρ w hρ hJ hb hd => by
            have d0 : ρ (.tmp 114) = (Value.slice xA LD cA) := hd 0 _ rfl rfl
            exact step_val (v := (.int .i64 (LD : Int))) (w' := w) (by simp [go_sem, execOp, d0, hρ.const]) ⟨Below.refl _ _, rfl⟩) ?_
          refine .cons (fun ρ w hρ hJ hb hd => by
            have d0 : ρ (.tmp 113) = (.int .i64 ((n : Int) + 1)) := hd 0 _ rfl rfl
            have d1 : ρ (.tmp 115) = (.int .i64 (LD : Int)) := hd 1 _ rfl rfl
            refine step_val (v := (.int .i64 ((n : Int) + 1 + (LD : Int)))) (w' := w) ?_ ⟨Below.refl _ _, rfl⟩
            simp [go_sem, execOp, d0, d1, hρ.const]
            exact wrap_small (by omega) (by omega)) ?_
          refine .cons (fun ρ w hρ hJ hb hd => by
            have d0 : ρ (.tmp 111) = (.int .i64 (LU : Int)) := hd 0 _ rfl rfl
            have d1 : ρ (.tmp 116) = (.int .i64 ((n : Int) + 1 + (LD : Int))) := hd 1 _ rfl rfl
            exact step_val (v := (.bool false)) (w' := w) (by simp [go_sem, execOp, d0, d1, hρ.const, e1]) ⟨Below.refl _ _, rfl⟩) ?_
          refine .cons (fun ρ w hρ hJ hb hd => by
            have d0 : ρ (.tmp 109) = (.bool false) := hd 0 _ rfl rfl
            have d1 : ρ (.tmp 117) = (.bool false) := hd 1 _ rfl rfl
            exact step_val (v := (.bool false)) (w' := w) (by simp [go_sem, execOp, d0, d1, hρ.const]) ⟨Below.refl _ _, rfl⟩) ?_
          refine .cons (fun ρ w hρ hJ hb hd => by
            have d0 : ρ (.tmp 118) = (.bool false) := hd 0 _ rfl rfl
            exact step_move (.tmp 118) rfl ⟨Below.refl _ _, d0⟩) ?_
          refine .cons (fun ρ w hρ hJ hb hd => by
            have d0 : ρ (.tmp 13) = (Value.slice x9 LU c9) := hb (13, _) (List.mem_of_getElem? (i := 13) rfl)
            exact step_move (.tmp 13) rfl ⟨Below.refl _ _, d0⟩) ?_
          refine .cons (fun ρ w hρ hJ hb hd => by
            have d0 : ρ (.tmp 15) = (Value.int IntKind.i64 ↑n) := hb (15, _) (List.mem_of_getElem? (i := 15) rfl)
            exact step_move (.tmp 15) rfl ⟨Below.refl _ _, d0⟩) ?_
          refine .cons (fun ρ w hρ hJ hb hd => by
            have d0 : ρ (.tmp 120) = (Value.slice x9 LU c9) := hd 0 _ rfl rfl
            have d1 : ρ (.tmp 121) = (Value.int IntKind.i64 ↑n) := hd 1 _ rfl rfl
            exact step_val (v := (.slice x9 n c9)) (w' := w) (by simp [execOp, d0, d1, run_slice_to w x9 LU c9 n (by omega)]) ⟨Below.refl _ _, rfl⟩) ?_
          refine .cons (fun ρ w hρ hJ hb hd => by
            have d0 : ρ (.tmp 7) = (Value.slice x2 LA c2) := hb (7, _) (List.mem_of_getElem? (i := 7) rfl)
            exact step_move (.tmp 7) rfl ⟨Below.refl _ _, d0⟩) ?_
          refine .cons (fun ρ w hρ hJ hb hd => by
            have d0 : ρ (.tmp 15) = (Value.int IntKind.i64 ↑n) := hb (15, _) (List.mem_of_getElem? (i := 15) rfl)
            exact step_move (.tmp 15) rfl ⟨Below.refl _ _, d0⟩) ?_
          refine .cons (fun ρ w hρ hJ hb hd => by
            have d0 : ρ (.tmp 123) = (Value.slice x2 LA c2) := hd 0 _ rfl rfl
            have d1 : ρ (.tmp 124) = (Value.int IntKind.i64 ↑n) := hd 1 _ rfl rfl
            exact step_val (v := (.slice x2 n c2)) (w' := w) (by simp [execOp, d0, d1, run_slice_to w x2 LA c2 n (by omega)]) ⟨Below.refl _ _, rfl⟩) ?_
          refine .cons (fun ρ w hρ hJ hb hd => by
            have d0 : ρ (.tmp 122) = (.slice x9 n c9) := hd 0 _ rfl rfl
            have d1 : ρ (.tmp 125) = (.slice x2 n c2) := hd 1 _ rfl rfl
            refine step_func 28 _ _ #[.slice x9 n c9, .slice x2 n c2] hρ rfl (enters_of Try.func28 (by kernel_rfl) rfl) (by simp [d0, d1]) ?_
            refine (same_in _ _ ((tx a0).take n) (by rw [List.length_take]; omega) _ (RowS.below P1 hJ) (RowS.below P2 hJ)).mono ?_
            rintro e w2 ⟨rfl, hB⟩
            exact ⟨_, rfl, hB, rfl⟩) ?_
          refine .cons (fun ρ w hρ hJ hb hd => by
            have d0 : ρ (.tmp 126) = (.bool true) := hd 0 _ rfl rfl
            exact step_val (v := (.bool false)) (w' := w) (by simp [go_sem, execOp, d0, hρ.const]) ⟨Below.refl _ _, rfl⟩) ?_
          refine .cons (fun ρ w hρ hJ hb hd => by
            have d0 : ρ (.tmp 119) = (.bool false) := hd 0 _ rfl rfl
            have d1 : ρ (.tmp 127) = (.bool false) := hd 1 _ rfl rfl
            exact step_val (v := (.bool false)) (w' := w) (by simp [go_sem, execOp, d0, d1, hρ.const]) ⟨Below.refl _ _, rfl⟩) ?_
          refine .cons (fun ρ w hρ hJ hb hd => by
            have d0 : ρ (.tmp 128) = (.bool false) := hd 0 _ rfl rfl
            exact step_move (.tmp 128) rfl ⟨Below.refl _ _, d0⟩) ?_
          refine .cons (fun ρ w hρ hJ hb hd => by
            have d0 : ρ (.tmp 13) = (Value.slice x9 LU c9) := hb (13, _) (List.mem_of_getElem? (i := 13) rfl)
            exact step_move (.tmp 13) rfl ⟨Below.refl _ _, d0⟩) ?_
          refine .cons (fun ρ w hρ hJ hb hd => by
            have d0 : ρ (.tmp 15) = (Value.int IntKind.i64 ↑n) := hb (15, _) (List.mem_of_getElem? (i := 15) rfl)
            exact step_move (.tmp 15) rfl ⟨Below.refl _ _, d0⟩) ?_
          refine .cons (fun ρ w hρ hJ hb hd => by
            have d0 : ρ (.tmp 131) = (Value.int IntKind.i64 ↑n) := hd 0 _ rfl rfl
            refine step_val (v := (.int .i64 ((n + 1 : Nat) : Int))) (w' := w) ?_ ⟨Below.refl _ _, rfl⟩
            simp [go_sem, execOp, d0, hρ.const]
            exact wrap_small (by omega) (by omega)) ?_
          refine .cons (fun ρ w hρ hJ hb hd => by
            have d0 : ρ (.tmp 130) = (Value.slice x9 LU c9) := hd 0 _ rfl rfl
            have d1 : ρ (.tmp 132) = (.int .i64 ((n + 1 : Nat) : Int)) := hd 1 _ rfl rfl
            have hsl := run_slice_from w x9 LU c9 (n + 1) (by omega) cU
            rw [hy9] at hsl
            exact step_val (v := (.slice y9 (LU - (n + 1)) (c9 - (n + 1)))) (w' := w) (by unfold execOp; simp only [d0, d1, Option.map_some, Option.map_none, hsl, Sem.run_bind, Sem.run_pure, Result.andThen_ok]) ⟨Below.refl _ _, rfl⟩) ?_
          refine .cons (fun ρ w hρ hJ hb hd => by
            have d0 : ρ (.tmp 14) = (Value.slice xA LD cA) := hb (14, _) (List.mem_of_getElem? (i := 14) rfl)
            exact step_move (.tmp 14) rfl ⟨Below.refl _ _, d0⟩) ?_
          refine .cons (fun ρ w hρ hJ hb hd => by
            have d0 : ρ (.tmp 133) = (.slice y9 (LU - (n + 1)) (c9 - (n + 1))) := hd 0 _ rfl rfl
            have d1 : ρ (.tmp 134) = (Value.slice xA LD cA) := hd 1 _ rfl rfl
            refine step_func 28 _ _ #[.slice y9 (LU - (n + 1)) (c9 - (n + 1)), .slice xA LD cA] hρ rfl (enters_of Try.func28 (by kernel_rfl) rfl) (by simp [d0, d1]) ?_
            refine (same_in _ _ (tx a2) (by rw [← unhide HD]; omega) _ (RowS.below P3 hJ) (RowS.below (unhide QD) hJ)).mono ?_
            rintro e w2 ⟨rfl, hB⟩
            exact ⟨_, rfl, hB, rfl⟩) ?_
          refine .cons (fun ρ w hρ hJ hb hd => by
            have d0 : ρ (.tmp 135) = (.bool true) := hd 0 _ rfl rfl
            exact step_val (v := (.bool false)) (w' := w) (by simp [go_sem, execOp, d0, hρ.const]) ⟨Below.refl _ _, rfl⟩) ?_
          refine .cons (fun ρ w hρ hJ hb hd => by
            have d0 : ρ (.tmp 129) = (.bool false) := hd 0 _ rfl rfl
            have d1 : ρ (.tmp 136) = (.bool false) := hd 1 _ rfl rfl
            exact step_val (v := (.bool false)) (w' := w) (by simp [go_sem, execOp, d0, d1, hρ.const]) ⟨Below.refl _ _, rfl⟩) (.nil _)
        case fin1 =>
          intro ac W5 hsz2 hds hb hJ hv
          obtain rfl := frame_of ([(0, (Value.string a0)), (1, (Value.int IntKind.i64 ↑p)), (2, (Value.string a2)), (3, undef), (4, undef), (5, undef), (6, (Value.bool false)), (7, (Value.slice x2 LA c2)), (8, (Value.bool true)), (9, (Value.slice x3 L3 c3)), (10, (Value.bool true)), (11, (Value.slice x4 L4 c4)), (12, (Value.bool true)), (13, (Value.slice x9 LU c9)), (14, (Value.slice xA LD cA)), (15, (Value.int IntKind.i64 ↑n)), (16, (Value.string a0)), (17, (Value.int IntKind.i64 ↑a0.size)), (18, (Value.bool false)), (19, (Value.bool false)), (20, (Value.string a2)), (21, (Value.int IntKind.i64 ↑a2.size)), (22, (Value.bool false)), (23, (Value.bool false)), (24, undef), (25, (Value.string a0)), (26, (Value.int IntKind.i64 a1)), (27, (Value.int IntKind.i64 ↑p)), (28, (Value.int IntKind.i64 ↑p)), (29, (Value.bool false)), (30, (Value.bool false)), (31, (Value.int IntKind.i64 ↑p)), (32, (Value.string a0)), (33, (Value.int IntKind.i64 ↑a0.size)), (34, (Value.bool false)), (35, (Value.bool false)), (36, (Value.tuple #[Value.slice x2 LA c2, Value.bool true])), (37, (Value.string a0)), (38, (Value.tuple #[Value.slice x2 LA c2, Value.bool true])), (39, (Value.slice x2 LA c2)), (40, (Value.bool true)), (41, (Value.tuple #[Value.slice x3 L3 c3, Value.bool true])), (42, (Value.string a0)), (43, (Value.int IntKind.i64 ↑p)), (44, (Value.string (a0.extract 0 p))), (45, (Value.tuple #[Value.slice x3 L3 c3, Value.bool true])), (46, (Value.slice x3 L3 c3)), (47, (Value.bool true)), (48, (Value.tuple #[Value.slice x4 L4 c4, Value.bool true])), (49, (Value.string a0)), (50, (Value.int IntKind.i64 ↑p)), (51, (Value.string (a0.extract p a0.size))), (52, (Value.tuple #[Value.slice x4 L4 c4, Value.bool true])), (53, (Value.slice x4 L4 c4)), (54, (Value.bool true)), (55, (Value.bool true)), (56, (Value.bool false)), (57, (Value.bool false)), (58, (Value.bool true)), (59, (Value.bool false)), (60, (Value.bool false)), (61, (Value.bool false)), (62, (Value.bool true)), (63, (Value.bool false)), (64, (Value.bool false)), (65, (Value.bool false)), (66, (Value.slice x2 LA c2)), (67, (Value.slice (some { block := W4.heap.size, off := 0 }) 0 0)), (68, (Value.slice x3 L3 c3)), (69, v6), (70, (Value.slice x4 L4 c4)), (71, v7), (72, (Value.bool true)), (73, (Value.bool false)), (74, (Value.bool false)), (75, (Value.tuple #[Value.slice x9 LU c9, Value.bool true])), (76, (Value.string a0)), (77, (Value.string (a0 ++ { data := #[10] }))), (78, (Value.string a2)), (79, (Value.string u)), (80, (Value.tuple #[Value.slice x9 LU c9, Value.bool true])), (81, (Value.slice x9 LU c9)), (82, (Value.bool true)), (83, (Value.tuple #[Value.slice xA LD cA, Value.bool true])), (84, (Value.string a2)), (85, (Value.tuple #[Value.slice xA LD cA, Value.bool true])), (86, (Value.slice xA LD cA)), (87, (Value.bool true)), (88, (Value.slice x2 LA c2)), (89, (Value.int IntKind.i64 ↑LA)), (90, (Value.string a0)), (91, (Value.int IntKind.i64 ↑a0.size)), (92, (Value.bool true)), (93, (Value.bool true)), (94, (Value.string a0)), (95, (Value.string a0)), (96, (Value.int IntKind.i64 ↑a0.size)), (97, (Value.int IntKind.i64 (↑a0.size - 1))), (98, (Value.int IntKind.u8 13)), (99, (Value.bool true)), (100, (Value.bool true)), (101, (Value.int IntKind.i64 ↑LA)), (102, (Value.int IntKind.i64 ↑n)), (138, undef)] ++ [(103, (Value.bool true)), (104, (.bool false)), (105, (.bool false)), (106, (Value.bool true)), (107, (.bool false)), (108, (.bool false)), (109, (.bool false)), (110, (Value.slice x9 LU c9)), (111, (.int .i64 (LU : Int))), (112, (Value.int IntKind.i64 ↑n)), (113, (.int .i64 ((n : Int) + 1))), (114, (Value.slice xA LD cA)), (115, (.int .i64 (LD : Int))), (116, (.int .i64 ((n : Int) + 1 + (LD : Int)))), (117, (.bool false)), (118, (.bool false)), (119, (.bool false)), (120, (Value.slice x9 LU c9)), (121, (Value.int IntKind.i64 ↑n)), (122, (.slice x9 n c9)), (123, (Value.slice x2 LA c2)), (124, (Value.int IntKind.i64 ↑n)), (125, (.slice x2 n c2)), (126, (.bool true)), (127, (.bool false)), (128, (.bool false)), (129, (.bool false)), (130, (Value.slice x9 LU c9)), (131, (Value.int IntKind.i64 ↑n)), (132, (.int .i64 ((n + 1 : Nat) : Int))), (133, (.slice y9 (LU - (n + 1)) (c9 - (n + 1)))), (134, (Value.slice xA LD cA)), (135, (.bool true)), (136, (.bool false)), (137, (.bool false))]) [(Value.string a0), (Value.int IntKind.i64 ↑p), (Value.string a2), undef, undef, undef, (Value.bool false), (Value.slice x2 LA c2), (Value.bool true), (Value.slice x3 L3 c3), (Value.bool true), (Value.slice x4 L4 c4), (Value.bool true), (Value.slice x9 LU c9), (Value.slice xA LD cA), (Value.int IntKind.i64 ↑n), (Value.string a0), (Value.int IntKind.i64 ↑a0.size), (Value.bool false), (Value.bool false), (Value.string a2), (Value.int IntKind.i64 ↑a2.size), (Value.bool false), (Value.bool false), undef, (Value.string a0), (Value.int IntKind.i64 a1), (Value.int IntKind.i64 ↑p), (Value.int IntKind.i64 ↑p), (Value.bool false), (Value.bool false), (Value.int IntKind.i64 ↑p), (Value.string a0), (Value.int IntKind.i64 ↑a0.size), (Value.bool false), (Value.bool false), (Value.tuple #[Value.slice x2 LA c2, Value.bool true]), (Value.string a0), (Value.tuple #[Value.slice x2 LA c2, Value.bool true]), (Value.slice x2 LA c2), (Value.bool true), (Value.tuple #[Value.slice x3 L3 c3, Value.bool true]), (Value.string a0), (Value.int IntKind.i64 ↑p), (Value.string (a0.extract 0 p)), (Value.tuple #[Value.slice x3 L3 c3, Value.bool true]), (Value.slice x3 L3 c3), (Value.bool true), (Value.tuple #[Value.slice x4 L4 c4, Value.bool true]), (Value.string a0), (Value.int IntKind.i64 ↑p), (Value.string (a0.extract p a0.size)), (Value.tuple #[Value.slice x4 L4 c4, Value.bool true]), (Value.slice x4 L4 c4), (Value.bool true), (Value.bool true), (Value.bool false), (Value.bool false), (Value.bool true), (Value.bool false), (Value.bool false), (Value.bool false), (Value.bool true), (Value.bool false), (Value.bool false), (Value.bool false), (Value.slice x2 LA c2), (Value.slice (some { block := W4.heap.size, off := 0 }) 0 0), (Value.slice x3 L3 c3), v6, (Value.slice x4 L4 c4), v7, (Value.bool true), (Value.bool false), (Value.bool false), (Value.tuple #[Value.slice x9 LU c9, Value.bool true]), (Value.string a0), (Value.string (a0 ++ { data := #[10] })), (Value.string a2), (Value.string u), (Value.tuple #[Value.slice x9 LU c9, Value.bool true]), (Value.slice x9 LU c9), (Value.bool true), (Value.tuple #[Value.slice xA LD cA, Value.bool true]), (Value.string a2), (Value.tuple #[Value.slice xA LD cA, Value.bool true]), (Value.slice xA LD cA), (Value.bool true), (Value.slice x2 LA c2), (Value.int IntKind.i64 ↑LA), (Value.string a0), (Value.int IntKind.i64 ↑a0.size), (Value.bool true), (Value.bool true), (Value.string a0), (Value.string a0), (Value.int IntKind.i64 ↑a0.size), (Value.int IntKind.i64 (↑a0.size - 1)), (Value.int IntKind.u8 13), (Value.bool true), (Value.bool true), (Value.int IntKind.i64 ↑LA), (Value.int IntKind.i64 ↑n), (Value.bool true), (.bool false), (.bool false), (Value.bool true), (.bool false), (.bool false), (.bool false), (Value.slice x9 LU c9), (.int .i64 (LU : Int)), (Value.int IntKind.i64 ↑n), (.int .i64 ((n : Int) + 1)), (Value.slice xA LD cA), (.int .i64 (LD : Int)), (.int .i64 ((n : Int) + 1 + (LD : Int))), (.bool false), (.bool false), (.bool false), (Value.slice x9 LU c9), (Value.int IntKind.i64 ↑n), (.slice x9 n c9), (Value.slice x2 LA c2), (Value.int IntKind.i64 ↑n), (.slice x2 n c2), (.bool true), (.bool false), (.bool false), (.bool false), (Value.slice x9 LU c9), (Value.int IntKind.i64 ↑n), (.int .i64 ((n + 1 : Nat) : Int)), (.slice y9 (LU - (n + 1)) (c9 - (n + 1))), (Value.slice xA LD cA), (.bool true), (.bool false), (.bool false), undef] hsz2 hds (fun p hp => by
            rcases List.mem_append.1 hp with h | h
            · exact hb p h
            · simp only [List.mem_cons, List.not_mem_nil, or_false] at h
              rcases h with rfl | rfl | rfl | rfl | rfl | rfl | rfl | rfl | rfl | rfl | rfl | rfl | rfl | rfl | rfl | rfl | rfl | rfl | rfl | rfl | rfl | rfl | rfl | rfl | rfl | rfl | rfl | rfl | rfl | rfl | rfl | rfl | rfl | rfl | rfl
              · exact hv 0 (by decide)
              · exact hv 1 (by decide)
              · exact hv 2 (by decide)
              · exact hv 3 (by decide)
              · exact hv 4 (by decide)
              · exact hv 5 (by decide)
              · exact hv 6 (by decide)
              · exact hv 7 (by decide)
              · exact hv 8 (by decide)
              · exact hv 9 (by decide)
              · exact hv 10 (by decide)
              · exact hv 11 (by decide)
              · exact hv 12 (by decide)
              · exact hv 13 (by decide)
              · exact hv 14 (by decide)
              · exact hv 15 (by decide)
              · exact hv 16 (by decide)
              · exact hv 17 (by decide)
              · exact hv 18 (by decide)
              · exact hv 19 (by decide)
              · exact hv 20 (by decide)
              · exact hv 21 (by decide)
              · exact hv 22 (by decide)
              · exact hv 23 (by decide)
              · exact hv 24 (by decide)
              · exact hv 25 (by decide)
              · exact hv 26 (by decide)
              · exact hv 27 (by decide)
              · exact hv 28 (by decide)
              · exact hv 29 (by decide)
              · exact hv 30 (by decide)
              · exact hv 31 (by decide)
              · exact hv 32 (by decide)
              · exact hv 33 (by decide)
              · exact hv 34 (by decide)) rfl
          clear hb hv hds hsz2 P1 P2 P3 e1 m1 m2 m3 m4 hy9
          have hB5 := hBA.trans (hJ.mono hsA)
          go_wp2_with fail
          refine (known_in _).mono ?_
          rintro e w4 ⟨rfl, b4⟩
          go_wp2
          go_ret
          exact ⟨rfl, hB5.trans (b4.mono hB5.size)⟩
      · by_cases hz : 0 < a0.size
        · have k1 : (0 : Int) < (a0.size : Int) := by omega
          have k2 : (0 : Int) ≤ (a0.size : Int) - 1 := by omega
          have k3 : (a0.size : Int) - 1 < (a0.size : Int) := by omega
          have k4 : ((a0.size : Int) - 1).toNat = a0.size - 1 := by omega
          have k5 := by_get a0 (a0.size - 1) (by omega)
          obtain ⟨bb, hbb⟩ : ∃ bb, by_ a0 (a0.size - 1) = bb := ⟨_, rfl⟩
          have k7 : ¬ bb = 13 := fun e => hcr ⟨hz, by omega⟩
          rw [hbb] at k5
          have k8 : ¬ (bb : Int) = 13 := by omega
          have k9 : ((bb : Int) == 13) = false := by simp; omega
          have hM := unhide HNL LA (by rw [if_neg hcr]; exact unhide HA)
          rw [← unhide HA, ← unhide HU, ← unhide HD] at hM
          have HM := hide hM
          clear hM hcr hbb
          go_wp2
          obtain ⟨m1, m2, m3, m4⟩ := unhide HM
          have e1 : (LU : Int) = (LA : Int) + 1 + (LD : Int) := by omega
          obtain ⟨y9, hy9⟩ : ∃ y9, (if c9 = LA + 1 then x9 else x9.map (·.add (LA + 1))) = y9 := ⟨_, rfl⟩
          have P1 := (unhide QC).take (n := LA) (by rw [← unhide HU]; omega)
          rw [m3] at P1
          have P2 := (unhide QL).take (n := LA) (by rw [← unhide HA]; omega)
          have P3 := (unhide QC).drop (n := LA + 1) (by rw [← unhide HU]; omega) cU
          rw [hy9, m4] at P3
          have hsA := hBA.size
          refine wp_region_any (by kernel_rfl) ?_
          change wpAny _ _ _ _ _ _ _ (World.drew _)
          refine region_invB 139 (fun j => 103 + j) [(0, (Value.string a0)), (1, (Value.int IntKind.i64 ↑p)), (2, (Value.string a2)), (3, undef), (4, undef), (5, undef), (6, (Value.bool false)), (7, (Value.slice x2 LA c2)), (8, (Value.bool true)), (9, (Value.slice x3 L3 c3)), (10, (Value.bool true)), (11, (Value.slice x4 L4 c4)), (12, (Value.bool true)), (13, (Value.slice x9 LU c9)), (14, (Value.slice xA LD cA)), (15, (Value.int IntKind.i64 ↑LA)), (16, (Value.string a0)), (17, (Value.int IntKind.i64 ↑a0.size)), (18, (Value.bool false)), (19, (Value.bool false)), (20, (Value.string a2)), (21, (Value.int IntKind.i64 ↑a2.size)), (22, (Value.bool false)), (23, (Value.bool false)), (24, undef), (25, (Value.string a0)), (26, (Value.int IntKind.i64 a1)), (27, (Value.int IntKind.i64 ↑p)), (28, (Value.int IntKind.i64 ↑p)), (29, (Value.bool false)), (30, (Value.bool false)), (31, (Value.int IntKind.i64 ↑p)), (32, (Value.string a0)), (33, (Value.int IntKind.i64 ↑a0.size)), (34, (Value.bool false)), (35, (Value.bool false)), (36, (Value.tuple #[Value.slice x2 LA c2, Value.bool true])), (37, (Value.string a0)), (38, (Value.tuple #[Value.slice x2 LA c2, Value.bool true])), (39, (Value.slice x2 LA c2)), (40, (Value.bool true)), (41, (Value.tuple #[Value.slice x3 L3 c3, Value.bool true])), (42, (Value.string a0)), (43, (Value.int IntKind.i64 ↑p)), (44, (Value.string (a0.extract 0 p))), (45, (Value.tuple #[Value.slice x3 L3 c3, Value.bool true])), (46, (Value.slice x3 L3 c3)), (47, (Value.bool true)), (48, (Value.tuple #[Value.slice x4 L4 c4, Value.bool true])), (49, (Value.string a0)), (50, (Value.int IntKind.i64 ↑p)), (51, (Value.string (a0.extract p a0.size))), (52, (Value.tuple #[Value.slice x4 L4 c4, Value.bool true])), (53, (Value.slice x4 L4 c4)), (54, (Value.bool true)), (55, (Value.bool true)), (56, (Value.bool false)), (57, (Value.bool false)), (58, (Value.bool true)), (59, (Value.bool false)), (60, (Value.bool false)), (61, (Value.bool false)), (62, (Value.bool true)), (63, (Value.bool false)), (64, (Value.bool false)), (65, (Value.bool false)), (66, (Value.slice x2 LA c2)), (67, (Value.slice (some { block := W4.heap.size, off := 0 }) 0 0)), (68, (Value.slice x3 L3 c3)), (69, v6), (70, (Value.slice x4 L4 c4)), (71, v7), (72, (Value.bool true)), (73, (Value.bool false)), (74, (Value.bool false)), (75, (Value.tuple #[Value.slice x9 LU c9, Value.bool true])), (76, (Value.string a0)), (77, (Value.string (a0 ++ { data := #[10] }))), (78, (Value.string a2)), (79, (Value.string u)), (80, (Value.tuple #[Value.slice x9 LU c9, Value.bool true])), (81, (Value.slice x9 LU c9)), (82, (Value.bool true)), (83, (Value.tuple #[Value.slice xA LD cA, Value.bool true])), (84, (Value.string a2)), (85, (Value.tuple #[Value.slice xA LD cA, Value.bool true])), (86, (Value.slice xA LD cA)), (87, (Value.bool true)), (88, (Value.slice x2 LA c2)), (89, (Value.int IntKind.i64 ↑LA)), (90, (Value.string a0)), (91, (Value.int IntKind.i64 ↑a0.size)), (92, (Value.bool true)), (93, (Value.bool true)), (94, (Value.string a0)), (95, (Value.string a0)), (96, (Value.int IntKind.i64 ↑a0.size)), (97, (Value.int IntKind.i64 (↑a0.size - 1))), (98, (Value.int IntKind.u8 ↑bb)), (99, (Value.bool false)), (100, (Value.bool false)), (101, undef), (102, undef), (138, undef)] (fun W' => Below WA.heap.size WA W') (valsOf [isV ((Value.bool true)), isV ((.bool false)), isV ((.bool false)), isV ((Value.bool true)), isV ((.bool false)), isV ((.bool false)), isV ((.bool false)), isV ((Value.slice x9 LU c9)), isV ((.int .i64 (LU : Int))), isV ((Value.int IntKind.i64 ↑LA)), isV ((.int .i64 ((LA : Int) + 1))), isV ((Value.slice xA LD cA)), isV ((.int .i64 (LD : Int))), isV ((.int .i64 ((LA : Int) + 1 + (LD : Int)))), isV ((.bool false)), isV ((.bool false)), isV ((.bool false)), isV ((Value.slice x9 LU c9)), isV ((Value.int IntKind.i64 ↑LA)), isV ((.slice x9 LA c9)), isV ((Value.slice x2 LA c2)), isV ((Value.int IntKind.i64 ↑LA)), isV ((.slice x2 LA c2)), isV ((.bool true)), isV ((.bool false)), isV ((.bool false)), isV ((.bool false)), isV ((Value.slice x9 LU c9)), isV ((Value.int IntKind.i64 ↑LA)), isV ((.int .i64 ((LA + 1 : Nat) : Int))), isV ((.slice y9 (LU - (LA + 1)) (c9 - (LA + 1)))), isV ((Value.slice xA LD cA)), isV ((.bool true)), isV ((.bool false)), isV ((.bool false))]) (fun w w' => Below w.heap.size w w') ?fit2 (fun w1 w2 h hG => h.trans (hG.mono h.size)) (valsOf_stable ?stable2) [(2, false), (6, false), (16, false), (26, false)] ?gs2 ?gv2 ?steps2 ?fin2 _ _ ?sz2 rfl ?base2 ((Below.refl _ _).drew)
          case fit2 => kernel_rfl
          case sz2 => rfl
          case gs2 => kernel_rfl
          case gv2 => intro p hp w v hv; simp only [List.mem_cons, List.not_mem_nil, or_false] at hp; rcases hp with rfl | rfl | rfl | rfl <;> exact hv
          case base2 => intro p hp; repeat (first | (rcases List.mem_cons.1 hp with rfl | hp; · rfl) | cases hp)
          case stable2 => exact Stables.all (by repeat (first | exact .nil | refine .same ?_))
          case steps2 =>
            refine .cons (fun ρ w hρ hJ hb hd => by
              have d0 : ρ (.tmp 8) = (Value.bool true) := hb (8, _) (List.mem_of_getElem? (i := 8) rfl)
              exact step_move (.tmp 8) rfl ⟨Below.refl _ _, d0⟩) ?_
            refine .cons (fun ρ w hρ hJ hb hd => by
              have d0 : ρ (.tmp 103) = (Value.bool true) := hd 0 _ rfl rfl
              exact step_val (v := (.bool false)) (w' := w) (by simp [go_sem, execOp, d0, hρ.const]) ⟨Below.refl _ _, rfl⟩) ?_
            refine .cons (fun ρ w hρ hJ hb hd => by
              have d0 : ρ (.tmp 104) = (.bool false) := hd 0 _ rfl rfl
              exact step_move (.tmp 104) rfl ⟨Below.refl _ _, d0⟩) ?_
            refine .cons (fun ρ w hρ hJ hb hd => by
              have d0 : ρ (.tmp 10) = (Value.bool true) := hb (10, _) (List.mem_of_getElem? (i := 10) rfl)
              exact step_move (.tmp 10) rfl ⟨Below.refl _ _, d0⟩) ?_
            refine .cons (fun ρ w hρ hJ hb hd => by
              have d0 : ρ (.tmp 106) = (Value.bool true) := hd 0 _ rfl rfl
              exact step_val (v := (.bool false)) (w' := w) (by simp [go_sem, execOp, d0, hρ.const]) ⟨Below.refl _ _, rfl⟩) ?_
            refine .cons (fun ρ w hρ hJ hb hd => by
              have d0 : ρ (.tmp 105) = (.bool false) := hd 0 _ rfl rfl
              have d1 : ρ (.tmp 107) = (.bool false) := hd 1 _ rfl rfl
              exact step_val (v := (.bool false)) (w' := w) (by simp [go_sem, execOp, d0, d1, hρ.const]) ⟨Below.refl _ _, rfl⟩) ?_
            refine .cons (fun ρ w hρ hJ hb hd => by
              have d0 : ρ (.tmp 108) = (.bool false) := hd 0 _ rfl rfl
              exact step_move (.tmp 108) rfl ⟨Below.refl _ _, d0⟩) ?_
            refine .cons (fun ρ w hρ hJ hb hd => by
              have d0 : ρ (.tmp 13) = (Value.slice x9 LU c9) := hb (13, _) (List.mem_of_getElem? (i := 13) rfl)
              exact step_move (.tmp 13) rfl ⟨Below.refl _ _, d0⟩) ?_
            refine .cons (fun ρ w hρ hJ hb hd => by
              have d0 : ρ (.tmp 110) = (Value.slice x9 LU c9) := hd 0 _ rfl rfl
              exact step_val (v := (.int .i64 (LU : Int))) (w' := w) (by simp [go_sem, execOp, d0, hρ.const]) ⟨Below.refl _ _, rfl⟩) ?_
            refine .cons (fun ρ w hρ hJ hb hd => by
              have d0 : ρ (.tmp 15) = (Value.int IntKind.i64 ↑LA) := hb (15, _) (List.mem_of_getElem? (i := 15) rfl)
              exact step_move (.tmp 15) rfl ⟨Below.refl _ _, d0⟩) ?_
            refine .cons (fun ρ w hρ hJ hb hd => by
              have d0 : ρ (.tmp 112) = (Value.int IntKind.i64 ↑LA) := hd 0 _ rfl rfl
              refine step_val (v := (.int .i64 ((LA : Int) + 1))) (w' := w) ?_ ⟨Below.refl _ _, rfl⟩
              simp [go_sem, execOp, d0, hρ.const]
              exact wrap_small (by omega) (by omega)) ?_
            refine .cons (fun ρ w hρ hJ hb hd => by
              have d0 : ρ (.tmp 14) = (Value.slice xA LD cA) := hb (14, _) (List.mem_of_getElem? (i := 14) rfl)
              exact step_move (.tmp 14) rfl ⟨Below.refl _ _, d0⟩) ?_
            refine .cons (fun ρ w hρ hJ hb hd => by
              have d0 : ρ (.tmp 114) = (Value.slice xA LD cA) := hd 0 _ rfl rfl
              exact step_val (v := (.int .i64 (LD : Int))) (w' := w) (by simp [go_sem, execOp, d0, hρ.const]) ⟨Below.refl _ _, rfl⟩) ?_
            refine .cons (fun ρ w hρ hJ hb hd => by
              have d0 : ρ (.tmp 113) = (.int .i64 ((LA : Int) + 1)) := hd 0 _ rfl rfl
              have d1 : ρ (.tmp 115) = (.int .i64 (LD : Int)) := hd 1 _ rfl rfl
              refine step_val (v := (.int .i64 ((LA : Int) + 1 + (LD : Int)))) (w' := w) ?_ ⟨Below.refl _ _, rfl⟩
              simp [go_sem, execOp, d0, d1, hρ.const]
              exact wrap_small (by omega) (by omega)) ?_
            refine .cons (fun ρ w hρ hJ hb hd => by
              have d0 : ρ (.tmp 111) = (.int .i64 (LU : Int)) := hd 0 _ rfl rfl
              have d1 : ρ (.tmp 116) = (.int .i64 ((LA : Int) + 1 + (LD : Int))) := hd 1 _ rfl rfl
              exact step_val (v := (.bool false)) (w' := w) (by simp [go_sem, execOp, d0, d1, hρ.const, e1]) ⟨Below.refl _ _, rfl⟩) ?_
            refine .cons (fun ρ w hρ hJ hb hd => by
              have d0 : ρ (.tmp 109) = (.bool false) := hd 0 _ rfl rfl
              have d1 : ρ (.tmp 117) = (.bool false) := hd 1 _ rfl rfl
              exact step_val (v := (.bool false)) (w' := w) (by simp [go_sem, execOp, d0, d1, hρ.const]) ⟨Below.refl _ _, rfl⟩) ?_
            refine .cons (fun ρ w hρ hJ hb hd => by
              have d0 : ρ (.tmp 118) = (.bool false) := hd 0 _ rfl rfl
              exact step_move (.tmp 118) rfl ⟨Below.refl _ _, d0⟩) ?_
            refine .cons (fun ρ w hρ hJ hb hd => by
              have d0 : ρ (.tmp 13) = (Value.slice x9 LU c9) := hb (13, _) (List.mem_of_getElem? (i := 13) rfl)
              exact step_move (.tmp 13) rfl ⟨Below.refl _ _, d0⟩) ?_
            refine .cons (fun ρ w hρ hJ hb hd => by
              have d0 : ρ (.tmp 15) = (Value.int IntKind.i64 ↑LA) := hb (15, _) (List.mem_of_getElem? (i := 15) rfl)
              exact step_move (.tmp 15) rfl ⟨Below.refl _ _, d0⟩) ?_
            refine .cons (fun ρ w hρ hJ hb hd => by
              have d0 : ρ (.tmp 120) = (Value.slice x9 LU c9) := hd 0 _ rfl rfl
              have d1 : ρ (.tmp 121) = (Value.int IntKind.i64 ↑LA) := hd 1 _ rfl rfl
              exact step_val (v := (.slice x9 LA c9)) (w' := w) (by simp [execOp, d0, d1, run_slice_to w x9 LU c9 LA (by omega)]) ⟨Below.refl _ _, rfl⟩) ?_
            refine .cons (fun ρ w hρ hJ hb hd => by
              have d0 : ρ (.tmp 7) = (Value.slice x2 LA c2) := hb (7, _) (List.mem_of_getElem? (i := 7) rfl)
              exact step_move (.tmp 7) rfl ⟨Below.refl _ _, d0⟩) ?_
            refine .cons (fun ρ w hρ hJ hb hd => by
              have d0 : ρ (.tmp 15) = (Value.int IntKind.i64 ↑LA) := hb (15, _) (List.mem_of_getElem? (i := 15) rfl)
              exact step_move (.tmp 15) rfl ⟨Below.refl _ _, d0⟩) ?_
            refine .cons (fun ρ w hρ hJ hb hd => by
              have d0 : ρ (.tmp 123) = (Value.slice x2 LA c2) := hd 0 _ rfl rfl
              have d1 : ρ (.tmp 124) = (Value.int IntKind.i64 ↑LA) := hd 1 _ rfl rfl
              exact step_val (v := (.slice x2 LA c2)) (w' := w) (by simp [execOp, d0, d1, run_slice_to w x2 LA c2 LA (by omega)]) ⟨Below.refl _ _, rfl⟩) ?_
            refine .cons (fun ρ w hρ hJ hb hd => by
              have d0 : ρ (.tmp 122) = (.slice x9 LA c9) := hd 0 _ rfl rfl
              have d1 : ρ (.tmp 125) = (.slice x2 LA c2) := hd 1 _ rfl rfl
              refine step_func 28 _ _ #[.slice x9 LA c9, .slice x2 LA c2] hρ rfl (enters_of Try.func28 (by kernel_rfl) rfl) (by simp [d0, d1]) ?_
              refine (same_in _ _ ((tx a0).take LA) (by rw [List.length_take]; omega) _ (RowS.below P1 hJ) (RowS.below P2 hJ)).mono ?_
              rintro e w2 ⟨rfl, hB⟩
              exact ⟨_, rfl, hB, rfl⟩) ?_
            refine .cons (fun ρ w hρ hJ hb hd => by
              have d0 : ρ (.tmp 126) = (.bool true) := hd 0 _ rfl rfl
              exact step_val (v := (.bool false)) (w' := w) (by simp [go_sem, execOp, d0, hρ.const]) ⟨Below.refl _ _, rfl⟩) ?_
            refine .cons (fun ρ w hρ hJ hb hd => by
              have d0 : ρ (.tmp 119) = (.bool false) := hd 0 _ rfl rfl
              have d1 : ρ (.tmp 127) = (.bool false) := hd 1 _ rfl rfl
              exact step_val (v := (.bool false)) (w' := w) (by simp [go_sem, execOp, d0, d1, hρ.const]) ⟨Below.refl _ _, rfl⟩) ?_
            refine .cons (fun ρ w hρ hJ hb hd => by
              have d0 : ρ (.tmp 128) = (.bool false) := hd 0 _ rfl rfl
              exact step_move (.tmp 128) rfl ⟨Below.refl _ _, d0⟩) ?_
            refine .cons (fun ρ w hρ hJ hb hd => by
              have d0 : ρ (.tmp 13) = (Value.slice x9 LU c9) := hb (13, _) (List.mem_of_getElem? (i := 13) rfl)
              exact step_move (.tmp 13) rfl ⟨Below.refl _ _, d0⟩) ?_
            refine .cons (fun ρ w hρ hJ hb hd => by
              have d0 : ρ (.tmp 15) = (Value.int IntKind.i64 ↑LA) := hb (15, _) (List.mem_of_getElem? (i := 15) rfl)
              exact step_move (.tmp 15) rfl ⟨Below.refl _ _, d0⟩) ?_
            refine .cons (fun ρ w hρ hJ hb hd => by
              have d0 : ρ (.tmp 131) = (Value.int IntKind.i64 ↑LA) := hd 0 _ rfl rfl
              refine step_val (v := (.int .i64 ((LA + 1 : Nat) : Int))) (w' := w) ?_ ⟨Below.refl _ _, rfl⟩
              simp [go_sem, execOp, d0, hρ.const]
              exact wrap_small (by omega) (by omega)) ?_
            refine .cons (fun ρ w hρ hJ hb hd => by
              have d0 : ρ (.tmp 130) = (Value.slice x9 LU c9) := hd 0 _ rfl rfl
              have d1 : ρ (.tmp 132) = (.int .i64 ((LA + 1 : Nat) : Int)) := hd 1 _ rfl rfl
              have hsl := run_slice_from w x9 LU c9 (LA + 1) (by omega) cU
              rw [hy9] at hsl
              exact step_val (v := (.slice y9 (LU - (LA + 1)) (c9 - (LA + 1)))) (w' := w) (by unfold execOp; simp only [d0, d1, Option.map_some, Option.map_none, hsl, Sem.run_bind, Sem.run_pure, Result.andThen_ok]) ⟨Below.refl _ _, rfl⟩) ?_
            refine .cons (fun ρ w hρ hJ hb hd => by
              have d0 : ρ (.tmp 14) = (Value.slice xA LD cA) := hb (14, _) (List.mem_of_getElem? (i := 14) rfl)
              exact step_move (.tmp 14) rfl ⟨Below.refl _ _, d0⟩) ?_
            refine .cons (fun ρ w hρ hJ hb hd => by
              have d0 : ρ (.tmp 133) = (.slice y9 (LU - (LA + 1)) (c9 - (LA + 1))) := hd 0 _ rfl rfl
              have d1 : ρ (.tmp 134) = (Value.slice xA LD cA) := hd 1 _ rfl rfl
              refine step_func 28 _ _ #[.slice y9 (LU - (LA + 1)) (c9 - (LA + 1)), .slice xA LD cA] hρ rfl (enters_of Try.func28 (by kernel_rfl) rfl) (by simp [d0, d1]) ?_
              refine (same_in _ _ (tx a2) (by rw [← unhide HD]; omega) _ (RowS.below P3 hJ) (RowS.below (unhide QD) hJ)).mono ?_
              rintro e w2 ⟨rfl, hB⟩
              exact ⟨_, rfl, hB, rfl⟩) ?_
            refine .cons (fun ρ w hρ hJ hb hd => by
              have d0 : ρ (.tmp 135) = (.bool true) := hd 0 _ rfl rfl
              exact step_val (v := (.bool false)) (w' := w) (by simp [go_sem, execOp, d0, hρ.const]) ⟨Below.refl _ _, rfl⟩) ?_
            refine .cons (fun ρ w hρ hJ hb hd => by
              have d0 : ρ (.tmp 129) = (.bool false) := hd 0 _ rfl rfl
              have d1 : ρ (.tmp 136) = (.bool false) := hd 1 _ rfl rfl
              exact step_val (v := (.bool false)) (w' := w) (by simp [go_sem, execOp, d0, d1, hρ.const]) ⟨Below.refl _ _, rfl⟩) (.nil _)
          case fin2 =>
            intro ac W5 hsz2 hds hb hJ hv
            obtain rfl := frame_of ([(0, (Value.string a0)), (1, (Value.int IntKind.i64 ↑p)), (2, (Value.string a2)), (3, undef), (4, undef), (5, undef), (6, (Value.bool false)), (7, (Value.slice x2 LA c2)), (8, (Value.bool true)), (9, (Value.slice x3 L3 c3)), (10, (Value.bool true)), (11, (Value.slice x4 L4 c4)), (12, (Value.bool true)), (13, (Value.slice x9 LU c9)), (14, (Value.slice xA LD cA)), (15, (Value.int IntKind.i64 ↑LA)), (16, (Value.string a0)), (17, (Value.int IntKind.i64 ↑a0.size)), (18, (Value.bool false)), (19, (Value.bool false)), (20, (Value.string a2)), (21, (Value.int IntKind.i64 ↑a2.size)), (22, (Value.bool false)), (23, (Value.bool false)), (24, undef), (25, (Value.string a0)), (26, (Value.int IntKind.i64 a1)), (27, (Value.int IntKind.i64 ↑p)), (28, (Value.int IntKind.i64 ↑p)), (29, (Value.bool false)), (30, (Value.bool false)), (31, (Value.int IntKind.i64 ↑p)), (32, (Value.string a0)), (33, (Value.int IntKind.i64 ↑a0.size)), (34, (Value.bool false)), (35, (Value.bool false)), (36, (Value.tuple #[Value.slice x2 LA c2, Value.bool true])), (37, (Value.string a0)), (38, (Value.tuple #[Value.slice x2 LA c2, Value.bool true])), (39, (Value.slice x2 LA c2)), (40, (Value.bool true)), (41, (Value.tuple #[Value.slice x3 L3 c3, Value.bool true])), (42, (Value.string a0)), (43, (Value.int IntKind.i64 ↑p)), (44, (Value.string (a0.extract 0 p))), (45, (Value.tuple #[Value.slice x3 L3 c3, Value.bool true])), (46, (Value.slice x3 L3 c3)), (47, (Value.bool true)), (48, (Value.tuple #[Value.slice x4 L4 c4, Value.bool true])), (49, (Value.string a0)), (50, (Value.int IntKind.i64 ↑p)), (51, (Value.string (a0.extract p a0.size))), (52, (Value.tuple #[Value.slice x4 L4 c4, Value.bool true])), (53, (Value.slice x4 L4 c4)), (54, (Value.bool true)), (55, (Value.bool true)), (56, (Value.bool false)), (57, (Value.bool false)), (58, (Value.bool true)), (59, (Value.bool false)), (60, (Value.bool false)), (61, (Value.bool false)), (62, (Value.bool true)), (63, (Value.bool false)), (64, (Value.bool false)), (65, (Value.bool false)), (66, (Value.slice x2 LA c2)), (67, (Value.slice (some { block := W4.heap.size, off := 0 }) 0 0)), (68, (Value.slice x3 L3 c3)), (69, v6), (70, (Value.slice x4 L4 c4)), (71, v7), (72, (Value.bool true)), (73, (Value.bool false)), (74, (Value.bool false)), (75, (Value.tuple #[Value.slice x9 LU c9, Value.bool true])), (76, (Value.string a0)), (77, (Value.string (a0 ++ { data := #[10] }))), (78, (Value.string a2)), (79, (Value.string u)), (80, (Value.tuple #[Value.slice x9 LU c9, Value.bool true])), (81, (Value.slice x9 LU c9)), (82, (Value.bool true)), (83, (Value.tuple #[Value.slice xA LD cA, Value.bool true])), (84, (Value.string a2)), (85, (Value.tuple #[Value.slice xA LD cA, Value.bool true])), (86, (Value.slice xA LD cA)), (87, (Value.bool true)), (88, (Value.slice x2 LA c2)), (89, (Value.int IntKind.i64 ↑LA)), (90, (Value.string a0)), (91, (Value.int IntKind.i64 ↑a0.size)), (92, (Value.bool true)), (93, (Value.bool true)), (94, (Value.string a0)), (95, (Value.string a0)), (96, (Value.int IntKind.i64 ↑a0.size)), (97, (Value.int IntKind.i64 (↑a0.size - 1))), (98, (Value.int IntKind.u8 ↑bb)), (99, (Value.bool false)), (100, (Value.bool false)), (101, undef), (102, undef), (138, undef)] ++ [(103, (Value.bool true)), (104, (.bool false)), (105, (.bool false)), (106, (Value.bool true)), (107, (.bool false)), (108, (.bool false)), (109, (.bool false)), (110, (Value.slice x9 LU c9)), (111, (.int .i64 (LU : Int))), (112, (Value.int IntKind.i64 ↑LA)), (113, (.int .i64 ((LA : Int) + 1))), (114, (Value.slice xA LD cA)), (115, (.int .i64 (LD : Int))), (116, (.int .i64 ((LA : Int) + 1 + (LD : Int)))), (117, (.bool false)), (118, (.bool false)), (119, (.bool false)), (120, (Value.slice x9 LU c9)), (121, (Value.int IntKind.i64 ↑LA)), (122, (.slice x9 LA c9)), (123, (Value.slice x2 LA c2)), (124, (Value.int IntKind.i64 ↑LA)), (125, (.slice x2 LA c2)), (126, (.bool true)), (127, (.bool false)), (128, (.bool false)), (129, (.bool false)), (130, (Value.slice x9 LU c9)), (131, (Value.int IntKind.i64 ↑LA)), (132, (.int .i64 ((LA + 1 : Nat) : Int))), (133, (.slice y9 (LU - (LA + 1)) (c9 - (LA + 1)))), (134, (Value.slice xA LD cA)), (135, (.bool true)), (136, (.bool false)), (137, (.bool false))]) [(Value.string a0), (Value.int IntKind.i64 ↑p), (Value.string a2), undef, undef, undef, (Value.bool false), (Value.slice x2 LA c2), (Value.bool true), (Value.slice x3 L3 c3), (Value.bool true), (Value.slice x4 L4 c4), (Value.bool true), (Value.slice x9 LU c9), (Value.slice xA LD cA), (Value.int IntKind.i64 ↑LA), (Value.string a0), (Value.int IntKind.i64 ↑a0.size), (Value.bool false), (Value.bool false), (Value.string a2), (Value.int IntKind.i64 ↑a2.size), (Value.bool false), (Value.bool false), undef, (Value.string a0), (Value.int IntKind.i64 a1), (Value.int IntKind.i64 ↑p), (Value.int IntKind.i64 ↑p), (Value.bool false), (Value.bool false), (Value.int IntKind.i64 ↑p), (Value.string a0), (Value.int IntKind.i64 ↑a0.size), (Value.bool false), (Value.bool false), (Value.tuple #[Value.slice x2 LA c2, Value.bool true]), (Value.string a0), (Value.tuple #[Value.slice x2 LA c2, Value.bool true]), (Value.slice x2 LA c2), (Value.bool true), (Value.tuple #[Value.slice x3 L3 c3, Value.bool true]), (Value.string a0), (Value.int IntKind.i64 ↑p), (Value.string (a0.extract 0 p)), (Value.tuple #[Value.slice x3 L3 c3, Value.bool true]), (Value.slice x3 L3 c3), (Value.bool true), (Value.tuple #[Value.slice x4 L4 c4, Value.bool true]), (Value.string a0), (Value.int IntKind.i64 ↑p), (Value.string (a0.extract p a0.size)), (Value.tuple #[Value.slice x4 L4 c4, Value.bool true]), (Value.slice x4 L4 c4), (Value.bool true), (Value.bool true), (Value.bool false), (Value.bool false), (Value.bool true), (Value.bool false), (Value.bool false), (Value.bool false), (Value.bool true), (Value.bool false), (Value.bool false), (Value.bool false), (Value.slice x2 LA c2), (Value.slice (some { block := W4.heap.size, off := 0 }) 0 0), (Value.slice x3 L3 c3), v6, (Value.slice x4 L4 c4), v7, (Value.bool true), (Value.bool false), (Value.bool false), (Value.tuple #[Value.slice x9 LU c9, Value.bool true]), (Value.string a0), (Value.string (a0 ++ { data := #[10] })), (Value.string a2), (Value.string u), (Value.tuple #[Value.slice x9 LU c9, Value.bool true]), (Value.slice x9 LU c9), (Value.bool true), (Value.tuple #[Value.slice xA LD cA, Value.bool true]), (Value.string a2), (Value.tuple #[Value.slice xA LD cA, Value.bool true]), (Value.slice xA LD cA), (Value.bool true), (Value.slice x2 LA c2), (Value.int IntKind.i64 ↑LA), (Value.string a0), (Value.int IntKind.i64 ↑a0.size), (Value.bool true), (Value.bool true), (Value.string a0), (Value.string a0), (Value.int IntKind.i64 ↑a0.size), (Value.int IntKind.i64 (↑a0.size - 1)), (Value.int IntKind.u8 ↑bb), (Value.bool false), (Value.bool false), undef, undef, (Value.bool true), (.bool false), (.bool false), (Value.bool true), (.bool false), (.bool false), (.bool false), (Value.slice x9 LU c9), (.int .i64 (LU : Int)), (Value.int IntKind.i64 ↑LA), (.int .i64 ((LA : Int) + 1)), (Value.slice xA LD cA), (.int .i64 (LD : Int)), (.int .i64 ((LA : Int) + 1 + (LD : Int))), (.bool false), (.bool false), (.bool false), (Value.slice x9 LU c9), (Value.int IntKind.i64 ↑LA), (.slice x9 LA c9), (Value.slice x2 LA c2), (Value.int IntKind.i64 ↑LA), (.slice x2 LA c2), (.bool true), (.bool false), (.bool false), (.bool false), (Value.slice x9 LU c9), (Value.int IntKind.i64 ↑LA), (.int .i64 ((LA + 1 : Nat) : Int)), (.slice y9 (LU - (LA + 1)) (c9 - (LA + 1))), (Value.slice xA LD cA), (.bool true), (.bool false), (.bool false), undef] hsz2 hds (fun p hp => by
              rcases List.mem_append.1 hp with h | h
              · exact hb p h
              · simp only [List.mem_cons, List.not_mem_nil, or_false] at h
                rcases h with rfl | rfl | rfl | rfl | rfl | rfl | rfl | rfl | rfl | rfl | rfl | rfl | rfl | rfl | rfl | rfl | rfl | rfl | rfl | rfl | rfl | rfl | rfl | rfl | rfl | rfl | rfl | rfl | rfl | rfl | rfl | rfl | rfl | rfl | rfl
                · exact hv 0 (by decide)
                · exact hv 1 (by decide)
                · exact hv 2 (by decide)
                · exact hv 3 (by decide)
                · exact hv 4 (by decide)
                · exact hv 5 (by decide)
                · exact hv 6 (by decide)
                · exact hv 7 (by decide)
                · exact hv 8 (by decide)
                · exact hv 9 (by decide)
                · exact hv 10 (by decide)
                · exact hv 11 (by decide)
                · exact hv 12 (by decide)
                · exact hv 13 (by decide)
                · exact hv 14 (by decide)
                · exact hv 15 (by decide)
                · exact hv 16 (by decide)
                · exact hv 17 (by decide)
                · exact hv 18 (by decide)
                · exact hv 19 (by decide)
                · exact hv 20 (by decide)
                · exact hv 21 (by decide)
                · exact hv 22 (by decide)
                · exact hv 23 (by decide)
                · exact hv 24 (by decide)
                · exact hv 25 (by decide)
                · exact hv 26 (by decide)
                · exact hv 27 (by decide)
                · exact hv 28 (by decide)
                · exact hv 29 (by decide)
                · exact hv 30 (by decide)
                · exact hv 31 (by decide)
                · exact hv 32 (by decide)
                · exact hv 33 (by decide)
                · exact hv 34 (by decide)) rfl
            clear hb hv hds hsz2 P1 P2 P3 e1 m1 m2 m3 m4 hy9
            have hB5 := hBA.trans (hJ.mono hsA)
            go_wp2_with fail
            refine (known_in _).mono ?_
            rintro e w4 ⟨rfl, b4⟩
            go_wp2
            go_ret
            exact ⟨rfl, hB5.trans (b4.mono hB5.size)⟩
        · have k1 : ¬ (0 : Int) < (a0.size : Int) := by omega
          have hM := unhide HNL LA (by rw [if_neg hcr]; exact unhide HA)
          rw [← unhide HA, ← unhide HU, ← unhide HD] at hM
          have HM := hide hM
          clear hM hcr
          go_wp2
          obtain ⟨m1, m2, m3, m4⟩ := unhide HM
          have e1 : (LU : Int) = (LA : Int) + 1 + (LD : Int) := by omega
          obtain ⟨y9, hy9⟩ : ∃ y9, (if c9 = LA + 1 then x9 else x9.map (·.add (LA + 1))) = y9 := ⟨_, rfl⟩
          have P1 := (unhide QC).take (n := LA) (by rw [← unhide HU]; omega)
          rw [m3] at P1
          have P2 := (unhide QL).take (n := LA) (by rw [← unhide HA]; omega)
          have P3 := (unhide QC).drop (n := LA + 1) (by rw [← unhide HU]; omega) cU
          rw [hy9, m4] at P3
          have hsA := hBA.size
          refine wp_region_any (by kernel_rfl) ?_
          change wpAny _ _ _ _ _ _ _ (World.drew _)
          refine region_invB 139 (fun j => 103 + j) [(0, (Value.string a0)), (1, (Value.int IntKind.i64 ↑p)), (2, (Value.string a2)), (3, undef), (4, undef), (5, undef), (6, (Value.bool false)), (7, (Value.slice x2 LA c2)), (8, (Value.bool true)), (9, (Value.slice x3 L3 c3)), (10, (Value.bool true)), (11, (Value.slice x4 L4 c4)), (12, (Value.bool true)), (13, (Value.slice x9 LU c9)), (14, (Value.slice xA LD cA)), (15, (Value.int IntKind.i64 ↑LA)), (16, (Value.string a0)), (17, (Value.int IntKind.i64 ↑a0.size)), (18, (Value.bool false)), (19, (Value.bool false)), (20, (Value.string a2)), (21, (Value.int IntKind.i64 ↑a2.size)), (22, (Value.bool false)), (23, (Value.bool false)), (24, undef), (25, (Value.string a0)), (26, (Value.int IntKind.i64 a1)), (27, (Value.int IntKind.i64 ↑p)), (28, (Value.int IntKind.i64 ↑p)), (29, (Value.bool false)), (30, (Value.bool false)), (31, (Value.int IntKind.i64 ↑p)), (32, (Value.string a0)), (33, (Value.int IntKind.i64 ↑a0.size)), (34, (Value.bool false)), (35, (Value.bool false)), (36, (Value.tuple #[Value.slice x2 LA c2, Value.bool true])), (37, (Value.string a0)), (38, (Value.tuple #[Value.slice x2 LA c2, Value.bool true])), (39, (Value.slice x2 LA c2)), (40, (Value.bool true)), (41, (Value.tuple #[Value.slice x3 L3 c3, Value.bool true])), (42, (Value.string a0)), (43, (Value.int IntKind.i64 ↑p)), (44, (Value.string (a0.extract 0 p))), (45, (Value.tuple #[Value.slice x3 L3 c3, Value.bool true])), (46, (Value.slice x3 L3 c3)), (47, (Value.bool true)), (48, (Value.tuple #[Value.slice x4 L4 c4, Value.bool true])), (49, (Value.string a0)), (50, (Value.int IntKind.i64 ↑p)), (51, (Value.string (a0.extract p a0.size))), (52, (Value.tuple #[Value.slice x4 L4 c4, Value.bool true])), (53, (Value.slice x4 L4 c4)), (54, (Value.bool true)), (55, (Value.bool true)), (56, (Value.bool false)), (57, (Value.bool false)), (58, (Value.bool true)), (59, (Value.bool false)), (60, (Value.bool false)), (61, (Value.bool false)), (62, (Value.bool true)), (63, (Value.bool false)), (64, (Value.bool false)), (65, (Value.bool false)), (66, (Value.slice x2 LA c2)), (67, (Value.slice (some { block := W4.heap.size, off := 0 }) 0 0)), (68, (Value.slice x3 L3 c3)), (69, v6), (70, (Value.slice x4 L4 c4)), (71, v7), (72, (Value.bool true)), (73, (Value.bool false)), (74, (Value.bool false)), (75, (Value.tuple #[Value.slice x9 LU c9, Value.bool true])), (76, (Value.string a0)), (77, (Value.string (a0 ++ { data := #[10] }))), (78, (Value.string a2)), (79, (Value.string u)), (80, (Value.tuple #[Value.slice x9 LU c9, Value.bool true])), (81, (Value.slice x9 LU c9)), (82, (Value.bool true)), (83, (Value.tuple #[Value.slice xA LD cA, Value.bool true])), (84, (Value.string a2)), (85, (Value.tuple #[Value.slice xA LD cA, Value.bool true])), (86, (Value.slice xA LD cA)), (87, (Value.bool true)), (88, (Value.slice x2 LA c2)), (89, (Value.int IntKind.i64 ↑LA)), (90, (Value.string a0)), (91, (Value.int IntKind.i64 ↑a0.size)), (92, (Value.bool false)), (93, (Value.bool false)), (94, undef), (95, undef), (96, undef), (97, undef), (98, undef), (99, undef), (100, (Value.bool false)), (101, undef), (102, undef), (138, undef)] (fun W' => Below WA.heap.size WA W') (valsOf [isV ((Value.bool true)), isV ((.bool false)), isV ((.bool false)), isV ((Value.bool true)), isV ((.bool false)), isV ((.bool false)), isV ((.bool false)), isV ((Value.slice x9 LU c9)), isV ((.int .i64 (LU : Int))), isV ((Value.int IntKind.i64 ↑LA)), isV ((.int .i64 ((LA : Int) + 1))), isV ((Value.slice xA LD cA)), isV ((.int .i64 (LD : Int))), isV ((.int .i64 ((LA : Int) + 1 + (LD : Int)))), isV ((.bool false)), isV ((.bool false)), isV ((.bool false)), isV ((Value.slice x9 LU c9)), isV ((Value.int IntKind.i64 ↑LA)), isV ((.slice x9 LA c9)), isV ((Value.slice x2 LA c2)), isV ((Value.int IntKind.i64 ↑LA)), isV ((.slice x2 LA c2)), isV ((.bool true)), isV ((.bool false)), isV ((.bool false)), isV ((.bool false)), isV ((Value.slice x9 LU c9)), isV ((Value.int IntKind.i64 ↑LA)), isV ((.int .i64 ((LA + 1 : Nat) : Int))), isV ((.slice y9 (LU - (LA + 1)) (c9 - (LA + 1)))), isV ((Value.slice xA LD cA)), isV ((.bool true)), isV ((.bool false)), isV ((.bool false))]) (fun w w' => Below w.heap.size w w') ?fit3 (fun w1 w2 h hG => h.trans (hG.mono h.size)) (valsOf_stable ?stable3) [(2, false), (6, false), (16, false), (26, false)] ?gs3 ?gv3 ?steps3 ?fin3 _ _ ?sz3 rfl ?base3 ((Below.refl _ _).drew)
          case fit3 => kernel_rfl
          case sz3 => rfl
          case gs3 => kernel_rfl
          case gv3 => intro p hp w v hv; simp only [List.mem_cons, List.not_mem_nil, or_false] at hp; rcases hp with rfl | rfl | rfl | rfl <;> exact hv
          case base3 => intro p hp; repeat (first | (rcases List.mem_cons.1 hp with rfl | hp; · rfl) | cases hp)
          case stable3 => exact Stables.all (by repeat (first | exact .nil | refine .same ?_))
          case steps3 =>
            refine .cons (fun ρ w hρ hJ hb hd => by
              have d0 : ρ (.tmp 8) = (Value.bool true) := hb (8, _) (List.mem_of_getElem? (i := 8) rfl)
              exact step_move (.tmp 8) rfl ⟨Below.refl _ _, d0⟩) ?_
            refine .cons (fun ρ w hρ hJ hb hd => by
              have d0 : ρ (.tmp 103) = (Value.bool true) := hd 0 _ rfl rfl
              exact step_val (v := (.bool false)) (w' := w) (by simp [go_sem, execOp, d0, hρ.const]) ⟨Below.refl _ _, rfl⟩) ?_
            refine .cons (fun ρ w hρ hJ hb hd => by
              have d0 : ρ (.tmp 104) = (.bool false) := hd 0 _ rfl rfl
              exact step_move (.tmp 104) rfl ⟨Below.refl _ _, d0⟩) ?_
            refine .cons (fun ρ w hρ hJ hb hd => by
              have d0 : ρ (.tmp 10) = (Value.bool true) := hb (10, _) (List.mem_of_getElem? (i := 10) rfl)
              exact step_move (.tmp 10) rfl ⟨Below.refl _ _, d0⟩) ?_
            refine .cons (fun ρ w hρ hJ hb hd => by
              have d0 : ρ (.tmp 106) = (Value.bool true) := hd 0 _ rfl rfl
              exact step_val (v := (.bool false)) (w' := w) (by simp [go_sem, execOp, d0, hρ.const]) ⟨Below.refl _ _, rfl⟩) ?_
            refine .cons (fun ρ w hρ hJ hb hd => by
              have d0 : ρ (.tmp 105) = (.bool false) := hd 0 _ rfl rfl
              have d1 : ρ (.tmp 107) = (.bool false) := hd 1 _ rfl rfl
              exact step_val (v := (.bool false)) (w' := w) (by simp [go_sem, execOp, d0, d1, hρ.const]) ⟨Below.refl _ _, rfl⟩) ?_
            refine .cons (fun ρ w hρ hJ hb hd => by
              have d0 : ρ (.tmp 108) = (.bool false) := hd 0 _ rfl rfl
              exact step_move (.tmp 108) rfl ⟨Below.refl _ _, d0⟩) ?_
            refine .cons (fun ρ w hρ hJ hb hd => by
              have d0 : ρ (.tmp 13) = (Value.slice x9 LU c9) := hb (13, _) (List.mem_of_getElem? (i := 13) rfl)
              exact step_move (.tmp 13) rfl ⟨Below.refl _ _, d0⟩) ?_
            refine .cons (fun ρ w hρ hJ hb hd => by
              have d0 : ρ (.tmp 110) = (Value.slice x9 LU c9) := hd 0 _ rfl rfl
              exact step_val (v := (.int .i64 (LU : Int))) (w' := w) (by simp [go_sem, execOp, d0, hρ.const]) ⟨Below.refl _ _, rfl⟩) ?_
            refine .cons (fun ρ w hρ hJ hb hd => by
              have d0 : ρ (.tmp 15) = (Value.int IntKind.i64 ↑LA) := hb (15, _) (List.mem_of_getElem? (i := 15) rfl)
              exact step_move (.tmp 15) rfl ⟨Below.refl _ _, d0⟩) ?_
            refine .cons (fun ρ w hρ hJ hb hd => by
              have d0 : ρ (.tmp 112) = (Value.int IntKind.i64 ↑LA) := hd 0 _ rfl rfl
              refine step_val (v := (.int .i64 ((LA : Int) + 1))) (w' := w) ?_ ⟨Below.refl _ _, rfl⟩
              simp [go_sem, execOp, d0, hρ.const]
              exact wrap_small (by omega) (by omega)) ?_
            refine .cons (fun ρ w hρ hJ hb hd => by
              have d0 : ρ (.tmp 14) = (Value.slice xA LD cA) := hb (14, _) (List.mem_of_getElem? (i := 14) rfl)
              exact step_move (.tmp 14) rfl ⟨Below.refl _ _, d0⟩) ?_
            refine .cons (fun ρ w hρ hJ hb hd => by
              have d0 : ρ (.tmp 114) = (Value.slice xA LD cA) := hd 0 _ rfl rfl
              exact step_val (v := (.int .i64 (LD : Int))) (w' := w) (by simp [go_sem, execOp, d0, hρ.const]) ⟨Below.refl _ _, rfl⟩) ?_
            refine .cons (fun ρ w hρ hJ hb hd => by
              have d0 : ρ (.tmp 113) = (.int .i64 ((LA : Int) + 1)) := hd 0 _ rfl rfl
              have d1 : ρ (.tmp 115) = (.int .i64 (LD : Int)) := hd 1 _ rfl rfl
              refine step_val (v := (.int .i64 ((LA : Int) + 1 + (LD : Int)))) (w' := w) ?_ ⟨Below.refl _ _, rfl⟩
              simp [go_sem, execOp, d0, d1, hρ.const]
              exact wrap_small (by omega) (by omega)) ?_
            refine .cons (fun ρ w hρ hJ hb hd => by
              have d0 : ρ (.tmp 111) = (.int .i64 (LU : Int)) := hd 0 _ rfl rfl
              have d1 : ρ (.tmp 116) = (.int .i64 ((LA : Int) + 1 + (LD : Int))) := hd 1 _ rfl rfl
              exact step_val (v := (.bool false)) (w' := w) (by simp [go_sem, execOp, d0, d1, hρ.const, e1]) ⟨Below.refl _ _, rfl⟩) ?_
            refine .cons (fun ρ w hρ hJ hb hd => by
              have d0 : ρ (.tmp 109) = (.bool false) := hd 0 _ rfl rfl
              have d1 : ρ (.tmp 117) = (.bool false) := hd 1 _ rfl rfl
              exact step_val (v := (.bool false)) (w' := w) (by simp [go_sem, execOp, d0, d1, hρ.const]) ⟨Below.refl _ _, rfl⟩) ?_
            refine .cons (fun ρ w hρ hJ hb hd => by
              have d0 : ρ (.tmp 118) = (.bool false) := hd 0 _ rfl rfl
              exact step_move (.tmp 118) rfl ⟨Below.refl _ _, d0⟩) ?_
            refine .cons (fun ρ w hρ hJ hb hd => by
              have d0 : ρ (.tmp 13) = (Value.slice x9 LU c9) := hb (13, _) (List.mem_of_getElem? (i := 13) rfl)
              exact step_move (.tmp 13) rfl ⟨Below.refl _ _, d0⟩) ?_
            refine .cons (fun ρ w hρ hJ hb hd => by
              have d0 : ρ (.tmp 15) = (Value.int IntKind.i64 ↑LA) := hb (15, _) (List.mem_of_getElem? (i := 15) rfl)
              exact step_move (.tmp 15) rfl ⟨Below.refl _ _, d0⟩) ?_
            refine .cons (fun ρ w hρ hJ hb hd => by
              have d0 : ρ (.tmp 120) = (Value.slice x9 LU c9) := hd 0 _ rfl rfl
              have d1 : ρ (.tmp 121) = (Value.int IntKind.i64 ↑LA) := hd 1 _ rfl rfl
              exact step_val (v := (.slice x9 LA c9)) (w' := w) (by simp [execOp, d0, d1, run_slice_to w x9 LU c9 LA (by omega)]) ⟨Below.refl _ _, rfl⟩) ?_
            refine .cons (fun ρ w hρ hJ hb hd => by
              have d0 : ρ (.tmp 7) = (Value.slice x2 LA c2) := hb (7, _) (List.mem_of_getElem? (i := 7) rfl)
              exact step_move (.tmp 7) rfl ⟨Below.refl _ _, d0⟩) ?_
            refine .cons (fun ρ w hρ hJ hb hd => by
              have d0 : ρ (.tmp 15) = (Value.int IntKind.i64 ↑LA) := hb (15, _) (List.mem_of_getElem? (i := 15) rfl)
              exact step_move (.tmp 15) rfl ⟨Below.refl _ _, d0⟩) ?_
            refine .cons (fun ρ w hρ hJ hb hd => by
              have d0 : ρ (.tmp 123) = (Value.slice x2 LA c2) := hd 0 _ rfl rfl
              have d1 : ρ (.tmp 124) = (Value.int IntKind.i64 ↑LA) := hd 1 _ rfl rfl
              exact step_val (v := (.slice x2 LA c2)) (w' := w) (by simp [execOp, d0, d1, run_slice_to w x2 LA c2 LA (by omega)]) ⟨Below.refl _ _, rfl⟩) ?_
            refine .cons (fun ρ w hρ hJ hb hd => by
              have d0 : ρ (.tmp 122) = (.slice x9 LA c9) := hd 0 _ rfl rfl
              have d1 : ρ (.tmp 125) = (.slice x2 LA c2) := hd 1 _ rfl rfl
              refine step_func 28 _ _ #[.slice x9 LA c9, .slice x2 LA c2] hρ rfl (enters_of Try.func28 (by kernel_rfl) rfl) (by simp [d0, d1]) ?_
              refine (same_in _ _ ((tx a0).take LA) (by rw [List.length_take]; omega) _ (RowS.below P1 hJ) (RowS.below P2 hJ)).mono ?_
              rintro e w2 ⟨rfl, hB⟩
              exact ⟨_, rfl, hB, rfl⟩) ?_
            refine .cons (fun ρ w hρ hJ hb hd => by
              have d0 : ρ (.tmp 126) = (.bool true) := hd 0 _ rfl rfl
              exact step_val (v := (.bool false)) (w' := w) (by simp [go_sem, execOp, d0, hρ.const]) ⟨Below.refl _ _, rfl⟩) ?_
            refine .cons (fun ρ w hρ hJ hb hd => by
              have d0 : ρ (.tmp 119) = (.bool false) := hd 0 _ rfl rfl
              have d1 : ρ (.tmp 127) = (.bool false) := hd 1 _ rfl rfl
              exact step_val (v := (.bool false)) (w' := w) (by simp [go_sem, execOp, d0, d1, hρ.const]) ⟨Below.refl _ _, rfl⟩) ?_
            refine .cons (fun ρ w hρ hJ hb hd => by
              have d0 : ρ (.tmp 128) = (.bool false) := hd 0 _ rfl rfl
              exact step_move (.tmp 128) rfl ⟨Below.refl _ _, d0⟩) ?_
            refine .cons (fun ρ w hρ hJ hb hd => by
              have d0 : ρ (.tmp 13) = (Value.slice x9 LU c9) := hb (13, _) (List.mem_of_getElem? (i := 13) rfl)
              exact step_move (.tmp 13) rfl ⟨Below.refl _ _, d0⟩) ?_
            refine .cons (fun ρ w hρ hJ hb hd => by
              have d0 : ρ (.tmp 15) = (Value.int IntKind.i64 ↑LA) := hb (15, _) (List.mem_of_getElem? (i := 15) rfl)
              exact step_move (.tmp 15) rfl ⟨Below.refl _ _, d0⟩) ?_
            refine .cons (fun ρ w hρ hJ hb hd => by
              have d0 : ρ (.tmp 131) = (Value.int IntKind.i64 ↑LA) := hd 0 _ rfl rfl
              refine step_val (v := (.int .i64 ((LA + 1 : Nat) : Int))) (w' := w) ?_ ⟨Below.refl _ _, rfl⟩
              simp [go_sem, execOp, d0, hρ.const]
              exact wrap_small (by omega) (by omega)) ?_
            refine .cons (fun ρ w hρ hJ hb hd => by
              have d0 : ρ (.tmp 130) = (Value.slice x9 LU c9) := hd 0 _ rfl rfl
              have d1 : ρ (.tmp 132) = (.int .i64 ((LA + 1 : Nat) : Int)) := hd 1 _ rfl rfl
              have hsl := run_slice_from w x9 LU c9 (LA + 1) (by omega) cU
              rw [hy9] at hsl
              exact step_val (v := (.slice y9 (LU - (LA + 1)) (c9 - (LA + 1)))) (w' := w) (by unfold execOp; simp only [d0, d1, Option.map_some, Option.map_none, hsl, Sem.run_bind, Sem.run_pure, Result.andThen_ok]) ⟨Below.refl _ _, rfl⟩) ?_
            refine .cons (fun ρ w hρ hJ hb hd => by
              have d0 : ρ (.tmp 14) = (Value.slice xA LD cA) := hb (14, _) (List.mem_of_getElem? (i := 14) rfl)
              exact step_move (.tmp 14) rfl ⟨Below.refl _ _, d0⟩) ?_
            refine .cons (fun ρ w hρ hJ hb hd => by
              have d0 : ρ (.tmp 133) = (.slice y9 (LU - (LA + 1)) (c9 - (LA + 1))) := hd 0 _ rfl rfl
              have d1 : ρ (.tmp 134) = (Value.slice xA LD cA) := hd 1 _ rfl rfl
              refine step_func 28 _ _ #[.slice y9 (LU - (LA + 1)) (c9 - (LA + 1)), .slice xA LD cA] hρ rfl (enters_of Try.func28 (by kernel_rfl) rfl) (by simp [d0, d1]) ?_
              refine (same_in _ _ (tx a2) (by rw [← unhide HD]; omega) _ (RowS.below P3 hJ) (RowS.below (unhide QD) hJ)).mono ?_
              rintro e w2 ⟨rfl, hB⟩
              exact ⟨_, rfl, hB, rfl⟩) ?_
            refine .cons (fun ρ w hρ hJ hb hd => by
              have d0 : ρ (.tmp 135) = (.bool true) := hd 0 _ rfl rfl
              exact step_val (v := (.bool false)) (w' := w) (by simp [go_sem, execOp, d0, hρ.const]) ⟨Below.refl _ _, rfl⟩) ?_
            refine .cons (fun ρ w hρ hJ hb hd => by
              have d0 : ρ (.tmp 129) = (.bool false) := hd 0 _ rfl rfl
              have d1 : ρ (.tmp 136) = (.bool false) := hd 1 _ rfl rfl
              exact step_val (v := (.bool false)) (w' := w) (by simp [go_sem, execOp, d0, d1, hρ.const]) ⟨Below.refl _ _, rfl⟩) (.nil _)
          case fin3 =>
            intro ac W5 hsz2 hds hb hJ hv
            obtain rfl := frame_of ([(0, (Value.string a0)), (1, (Value.int IntKind.i64 ↑p)), (2, (Value.string a2)), (3, undef), (4, undef), (5, undef), (6, (Value.bool false)), (7, (Value.slice x2 LA c2)), (8, (Value.bool true)), (9, (Value.slice x3 L3 c3)), (10, (Value.bool true)), (11, (Value.slice x4 L4 c4)), (12, (Value.bool true)), (13, (Value.slice x9 LU c9)), (14, (Value.slice xA LD cA)), (15, (Value.int IntKind.i64 ↑LA)), (16, (Value.string a0)), (17, (Value.int IntKind.i64 ↑a0.size)), (18, (Value.bool false)), (19, (Value.bool false)), (20, (Value.string a2)), (21, (Value.int IntKind.i64 ↑a2.size)), (22, (Value.bool false)), (23, (Value.bool false)), (24, undef), (25, (Value.string a0)), (26, (Value.int IntKind.i64 a1)), (27, (Value.int IntKind.i64 ↑p)), (28, (Value.int IntKind.i64 ↑p)), (29, (Value.bool false)), (30, (Value.bool false)), (31, (Value.int IntKind.i64 ↑p)), (32, (Value.string a0)), (33, (Value.int IntKind.i64 ↑a0.size)), (34, (Value.bool false)), (35, (Value.bool false)), (36, (Value.tuple #[Value.slice x2 LA c2, Value.bool true])), (37, (Value.string a0)), (38, (Value.tuple #[Value.slice x2 LA c2, Value.bool true])), (39, (Value.slice x2 LA c2)), (40, (Value.bool true)), (41, (Value.tuple #[Value.slice x3 L3 c3, Value.bool true])), (42, (Value.string a0)), (43, (Value.int IntKind.i64 ↑p)), (44, (Value.string (a0.extract 0 p))), (45, (Value.tuple #[Value.slice x3 L3 c3, Value.bool true])), (46, (Value.slice x3 L3 c3)), (47, (Value.bool true)), (48, (Value.tuple #[Value.slice x4 L4 c4, Value.bool true])), (49, (Value.string a0)), (50, (Value.int IntKind.i64 ↑p)), (51, (Value.string (a0.extract p a0.size))), (52, (Value.tuple #[Value.slice x4 L4 c4, Value.bool true])), (53, (Value.slice x4 L4 c4)), (54, (Value.bool true)), (55, (Value.bool true)), (56, (Value.bool false)), (57, (Value.bool false)), (58, (Value.bool true)), (59, (Value.bool false)), (60, (Value.bool false)), (61, (Value.bool false)), (62, (Value.bool true)), (63, (Value.bool false)), (64, (Value.bool false)), (65, (Value.bool false)), (66, (Value.slice x2 LA c2)), (67, (Value.slice (some { block := W4.heap.size, off := 0 }) 0 0)), (68, (Value.slice x3 L3 c3)), (69, v6), (70, (Value.slice x4 L4 c4)), (71, v7), (72, (Value.bool true)), (73, (Value.bool false)), (74, (Value.bool false)), (75, (Value.tuple #[Value.slice x9 LU c9, Value.bool true])), (76, (Value.string a0)), (77, (Value.string (a0 ++ { data := #[10] }))), (78, (Value.string a2)), (79, (Value.string u)), (80, (Value.tuple #[Value.slice x9 LU c9, Value.bool true])), (81, (Value.slice x9 LU c9)), (82, (Value.bool true)), (83, (Value.tuple #[Value.slice xA LD cA, Value.bool true])), (84, (Value.string a2)), (85, (Value.tuple #[Value.slice xA LD cA, Value.bool true])), (86, (Value.slice xA LD cA)), (87, (Value.bool true)), (88, (Value.slice x2 LA c2)), (89, (Value.int IntKind.i64 ↑LA)), (90, (Value.string a0)), (91, (Value.int IntKind.i64 ↑a0.size)), (92, (Value.bool false)), (93, (Value.bool false)), (94, undef), (95, undef), (96, undef), (97, undef), (98, undef), (99, undef), (100, (Value.bool false)), (101, undef), (102, undef), (138, undef)] ++ [(103, (Value.bool true)), (104, (.bool false)), (105, (.bool false)), (106, (Value.bool true)), (107, (.bool false)), (108, (.bool false)), (109, (.bool false)), (110, (Value.slice x9 LU c9)), (111, (.int .i64 (LU : Int))), (112, (Value.int IntKind.i64 ↑LA)), (113, (.int .i64 ((LA : Int) + 1))), (114, (Value.slice xA LD cA)), (115, (.int .i64 (LD : Int))), (116, (.int .i64 ((LA : Int) + 1 + (LD : Int)))), (117, (.bool false)), (118, (.bool false)), (119, (.bool false)), (120, (Value.slice x9 LU c9)), (121, (Value.int IntKind.i64 ↑LA)), (122, (.slice x9 LA c9)), (123, (Value.slice x2 LA c2)), (124, (Value.int IntKind.i64 ↑LA)), (125, (.slice x2 LA c2)), (126, (.bool true)), (127, (.bool false)), (128, (.bool false)), (129, (.bool false)), (130, (Value.slice x9 LU c9)), (131, (Value.int IntKind.i64 ↑LA)), (132, (.int .i64 ((LA + 1 : Nat) : Int))), (133, (.slice y9 (LU - (LA + 1)) (c9 - (LA + 1)))), (134, (Value.slice xA LD cA)), (135, (.bool true)), (136, (.bool false)), (137, (.bool false))]) [(Value.string a0), (Value.int IntKind.i64 ↑p), (Value.string a2), undef, undef, undef, (Value.bool false), (Value.slice x2 LA c2), (Value.bool true), (Value.slice x3 L3 c3), (Value.bool true), (Value.slice x4 L4 c4), (Value.bool true), (Value.slice x9 LU c9), (Value.slice xA LD cA), (Value.int IntKind.i64 ↑LA), (Value.string a0), (Value.int IntKind.i64 ↑a0.size), (Value.bool false), (Value.bool false), (Value.string a2), (Value.int IntKind.i64 ↑a2.size), (Value.bool false), (Value.bool false), undef, (Value.string a0), (Value.int IntKind.i64 a1), (Value.int IntKind.i64 ↑p), (Value.int IntKind.i64 ↑p), (Value.bool false), (Value.bool false), (Value.int IntKind.i64 ↑p), (Value.string a0), (Value.int IntKind.i64 ↑a0.size), (Value.bool false), (Value.bool false), (Value.tuple #[Value.slice x2 LA c2, Value.bool true]), (Value.string a0), (Value.tuple #[Value.slice x2 LA c2, Value.bool true]), (Value.slice x2 LA c2), (Value.bool true), (Value.tuple #[Value.slice x3 L3 c3, Value.bool true]), (Value.string a0), (Value.int IntKind.i64 ↑p), (Value.string (a0.extract 0 p)), (Value.tuple #[Value.slice x3 L3 c3, Value.bool true]), (Value.slice x3 L3 c3), (Value.bool true), (Value.tuple #[Value.slice x4 L4 c4, Value.bool true]), (Value.string a0), (Value.int IntKind.i64 ↑p), (Value.string (a0.extract p a0.size)), (Value.tuple #[Value.slice x4 L4 c4, Value.bool true]), (Value.slice x4 L4 c4), (Value.bool true), (Value.bool true), (Value.bool false), (Value.bool false), (Value.bool true), (Value.bool false), (Value.bool false), (Value.bool false), (Value.bool true), (Value.bool false), (Value.bool false), (Value.bool false), (Value.slice x2 LA c2), (Value.slice (some { block := W4.heap.size, off := 0 }) 0 0), (Value.slice x3 L3 c3), v6, (Value.slice x4 L4 c4), v7, (Value.bool true), (Value.bool false), (Value.bool false), (Value.tuple #[Value.slice x9 LU c9, Value.bool true]), (Value.string a0), (Value.string (a0 ++ { data := #[10] })), (Value.string a2), (Value.string u), (Value.tuple #[Value.slice x9 LU c9, Value.bool true]), (Value.slice x9 LU c9), (Value.bool true), (Value.tuple #[Value.slice xA LD cA, Value.bool true]), (Value.string a2), (Value.tuple #[Value.slice xA LD cA, Value.bool true]), (Value.slice xA LD cA), (Value.bool true), (Value.slice x2 LA c2), (Value.int IntKind.i64 ↑LA), (Value.string a0), (Value.int IntKind.i64 ↑a0.size), (Value.bool false), (Value.bool false), undef, undef, undef, undef, undef, undef, (Value.bool false), undef, undef, (Value.bool true), (.bool false), (.bool false), (Value.bool true), (.bool false), (.bool false), (.bool false), (Value.slice x9 LU c9), (.int .i64 (LU : Int)), (Value.int IntKind.i64 ↑LA), (.int .i64 ((LA : Int) + 1)), (Value.slice xA LD cA), (.int .i64 (LD : Int)), (.int .i64 ((LA : Int) + 1 + (LD : Int))), (.bool false), (.bool false), (.bool false), (Value.slice x9 LU c9), (Value.int IntKind.i64 ↑LA), (.slice x9 LA c9), (Value.slice x2 LA c2), (Value.int IntKind.i64 ↑LA), (.slice x2 LA c2), (.bool true), (.bool false), (.bool false), (.bool false), (Value.slice x9 LU c9), (Value.int IntKind.i64 ↑LA), (.int .i64 ((LA + 1 : Nat) : Int)), (.slice y9 (LU - (LA + 1)) (c9 - (LA + 1))), (Value.slice xA LD cA), (.bool true), (.bool false), (.bool false), undef] hsz2 hds (fun p hp => by
              rcases List.mem_append.1 hp with h | h
              · exact hb p h
              · simp only [List.mem_cons, List.not_mem_nil, or_false] at h
                rcases h with rfl | rfl | rfl | rfl | rfl | rfl | rfl | rfl | rfl | rfl | rfl | rfl | rfl | rfl | rfl | rfl | rfl | rfl | rfl | rfl | rfl | rfl | rfl | rfl | rfl | rfl | rfl | rfl | rfl | rfl | rfl | rfl | rfl | rfl | rfl
                · exact hv 0 (by decide)
                · exact hv 1 (by decide)
                · exact hv 2 (by decide)
                · exact hv 3 (by decide)
                · exact hv 4 (by decide)
                · exact hv 5 (by decide)
                · exact hv 6 (by decide)
                · exact hv 7 (by decide)
                · exact hv 8 (by decide)
                · exact hv 9 (by decide)
                · exact hv 10 (by decide)
                · exact hv 11 (by decide)
                · exact hv 12 (by decide)
                · exact hv 13 (by decide)
                · exact hv 14 (by decide)
                · exact hv 15 (by decide)
                · exact hv 16 (by decide)
                · exact hv 17 (by decide)
                · exact hv 18 (by decide)
                · exact hv 19 (by decide)
                · exact hv 20 (by decide)
                · exact hv 21 (by decide)
                · exact hv 22 (by decide)
                · exact hv 23 (by decide)
                · exact hv 24 (by decide)
                · exact hv 25 (by decide)
                · exact hv 26 (by decide)
                · exact hv 27 (by decide)
                · exact hv 28 (by decide)
                · exact hv 29 (by decide)
                · exact hv 30 (by decide)
                · exact hv 31 (by decide)
                · exact hv 32 (by decide)
                · exact hv 33 (by decide)
                · exact hv 34 (by decide)) rfl
            clear hb hv hds hsz2 P1 P2 P3 e1 m1 m2 m3 m4 hy9
            have hB5 := hBA.trans (hJ.mono hsA)
            go_wp2_with fail
            refine (known_in _).mono ?_
            rintro e w4 ⟨rfl, b4⟩
            go_wp2
            go_ret
            exact ⟨rfl, hB5.trans (b4.mono hB5.size)⟩

theorem own : ownKnob Try.prog.godebug = none := by kernel_rfl

set_option maxRecDepth 100000 in
theorem lifted (os : Os) (started : os.Started) (H : Type) (enc : TypeId × Value → H) :
    ReturnsInHanded {} Try.checked os 8 .any (Rows.clumpCutsSpec.pre6 enc Try.prog Try.f8 Rows.clumpCutsRow.domain false) (Rows.clumpCutsSpec.post enc Try.prog Try.f8 false true false false) := by
  refine returnsInHanded_of_change (C := Try.checked) own started (by kernel_rfl) Try.func8
    (ChangeSpec.witness6 (enc := enc) (C := Try.checked) false ⟨#[], #[.string ByteArray.empty, .int .i64 0, .string ByteArray.empty], []⟩ 8 (by kernel_rfl) (by kernel_rfl) (by kernel_rfl) (by kernel_rfl)) ?_
  intro W base args ds gs before hval0 hW hcnd _
  have hval : ∀ (j : Nat) t v, Try.f8.params[j]? = some t → args[j]? = some v → Value.okWide Try.prog W .any base t v := hval0
  have hW' := hW
  obtain ⟨p, q, hA0, hV, rfl, hfz, hnd⟩ := hW
  have hA : DataW.TrodAll enc Try.prog W 0 (fun _ => true) true Try.f8.params.toList args.toList ds p := hA0
  rw [Try.params8] at hA hval
  obtain ⟨v0, vs0, d0, ds0, p0, q0, hargs, rfl, rfl, h0, r0⟩ := trodAll_cons hA
  obtain ⟨v1, vs1, d1, ds1, p1, q1, rfl, rfl, rfl, h1, r1⟩ := trodAll_cons r0
  obtain ⟨v2, vs2, d2, ds2, p2, q2, rfl, rfl, rfl, h2, r2⟩ := trodAll_cons r1
  obtain ⟨rfl, rfl, rfl⟩ := trodAll_nil r2
  obtain rfl : args = #[v0, v1, v2] := by cases args; simp_all
  obtain ⟨rfl, rfl⟩ := trodVars_none hV
  obtain ⟨a0, rfl, rfl, rfl, w0⟩ := open_string Try.underlying9 (hval 0 9 v0 rfl rfl) h0
  obtain ⟨a1, rfl, rfl, rfl, w1⟩ := open_int Try.underlying3 (hval 1 3 v1 rfl rfl) h1
  obtain ⟨a2, rfl, rfl, rfl, w2⟩ := open_string Try.underlying9 (hval 2 9 v2 rfl rfl) h2
  clear hA0 hval0
  simp only [List.append_nil] at hW'
  refine (walk a0 a1 a2 w0 w1 w2 W).mono fun e W' ⟨he, bel⟩ => ?_
  subst he
  exact ⟨_, rfl, _, _, _, [], _, [], hW', trodAll_mk1 (shut_bool Try.underlying4 _), (trodAll_cons_mk (shut_string Try.underlying9 w0) (trodAll_cons_mk (shut_int Try.underlying3 w1) (trodAll_cons_mk (shut_string Try.underlying9 w2) trodAll_mk0))), rfl, bel.frame _, fun h => by cases h⟩

theorem over : Rows.clumpCutsRow.holds Try.pinned (OpenSpec.ofChange Rows.clumpCutsSpec) :=
  OpenClaim.holds_of_wide 8 Try.f8 rfl rfl rfl rfl rfl rfl rfl ⟨rfl, rfl, rfl, rfl, rfl⟩ rfl rfl rfl rfl rfl (by kernel_rfl) Try.func8 (by kernel_rfl)
    (of_decide_eq_true (by kernel_rfl)) (by unfold Func.isWrapper; first | (rw [if_pos (by decide +kernel)]; kernel_rfl) | (rw [if_neg (by decide +kernel)]; exact ⟨rfl, rfl⟩))
    (fun os started H enc _ => lifted os started H enc)

end LClumpCuts

theorem clumpCuts_holds : Rows.ClumpCutsSaid := LClumpCuts.over

end Go.Proofs.Ytcagfapdhopmjaa
