/-
  What the document's own escape answers: a byte's number, a rune's number.
-/
import Derived.Test.YticjilkcobpcjaaDoorZRe
import Derived.Test.YticjilkcobpcjaaDoorZXReg
set_option linter.unusedSimpArgs false
set_option linter.unusedVariables false
namespace Go.Proofs.YticjilkcobpcjaaDoor
open Go.RowKit Go.Lib

theorem conv_byte (n : Nat) (h : n < 256) (w : World) : (convert 60 9 (.slice (some ⟨w.heap.size, 0, none⟩) 1 1)).run Tryd.prog (w.alloc (.cells #[.int .u8 (n : Int)] 5)) = .ok (.string (ofL [UInt8.ofNat n])) (w.alloc (.cells #[.int .u8 (n : Int)] 5)) := by
  have := conv_one (UInt8.ofNat n) w
  rw [u8n n h] at this
  exact this

set_option maxRecDepth 100000 in
set_option maxHeartbeats 4000000 in
theorem refEsc_byte (s : ByteArray) (hs : s.size ≤ 1000000000) (i : Nat) (hi : i + 1 < s.size) (h1 : by_ s (i + 1) = 120) (w : World) :
    Calls Tryd.prog 44 #[.string s, .int .i64 (i : Int)] w fun e w' => e = .returned (.tuple #[.string (resE (escE s i)).1, .int .i64 ((resE (escE s i)).2 : Int)]) ∧ Below w.heap.size w w' := by
  have hE : escE s i = byteE s (i + 2) := by unfold escE; rw [if_pos hi]; simp only [h1]; rfl
  rw [hE]
  have hget := by_get s (i + 1) hi
  rw [h1] at hget
  have i1 : ¬ (s.size : Int) ≤ (i : Int) + 1 := by omega
  have i2 : (i : Int) + 1 < (s.size : Int) := by omega
  have i3 : (0 : Int) ≤ (i : Int) + 1 := by omega
  have t1 : ((i : Int) + 1).toNat = i + 1 := by omega
  clear hE
  by_cases h3 : i + 3 < s.size
  · have g2 := by_get s (i + 2) (by omega)
    have g3 := by_get s (i + 3) h3
    have hv2 := by_lt s (i + 2)
    have hv3 := by_lt s (i + 3)
    have j1 : (i : Int) + 3 < (s.size : Int) := by omega
    have j2 : (i : Int) + 2 < (s.size : Int) := by omega
    have j3 : (0 : Int) ≤ (i : Int) + 2 := by omega
    have j4 : (0 : Int) ≤ (i : Int) + 3 := by omega
    have t2 : ((i : Int) + 2).toNat = i + 2 := by omega
    have t3 : ((i : Int) + 3).toNat = i + 3 := by omega
    have hY := byteE_yes (s := s) (i := i + 2) h3
    have hN := byteE_no (s := s) (i := i + 2)
    obtain ⟨d2, hd2⟩ : ∃ d, by_ s (i + 2) = d := ⟨_, rfl⟩
    obtain ⟨d3, hd3⟩ : ∃ d, by_ s (i + 2 + 1) = d := ⟨_, rfl⟩
    rw [hd2, hd3] at hY hN
    rw [hd2] at g2 hv2
    rw [show by_ s (i + 3) = d3 from hd3] at g3 hv3
    by_cases q2 : dgV d2 < 16
    · have v2 := vaI_yes q2
      have k2 : (0 : Int) ≤ (dgV d2 : Int) := by omega
      by_cases q3 : dgV d3 < 16
      · have v3 := vaI_yes q3
        have k3 : (0 : Int) ≤ (dgV d3 : Int) := by omega
        rw [hY q2 q3, res_some]
        obtain ⟨m, hm⟩ : ∃ m, 16 * dgV d2 + dgV d3 = m := ⟨_, rfl⟩
        rw [hm]
        have hm3 : m < 256 := by omega
        have hm2 : (16 * (dgV d2 : Int) + (dgV d3 : Int)) % 256 = (m : Int) := by omega
        have hm4 : 16 * (dgV d2 : Int) + (dgV d3 : Int) = (m : Int) := by omega
        have hcv := conv_byte m hm3
        clear hY hN hd2 hd3 hm h1
        go_enter Tryd.func44, Tryd.ntmps44
        go_wp2_with (go_at_call 57; refine (value_in _ (by first | exact hv2 | exact hv3) _).mono ?_; rintro e w' ⟨rfl, rfl⟩)
        refine wp_region_any (by kernel_rfl) ?_
        change wpAny _ _ _ _ _ _ _ (World.drew _)
        obtain ⟨Wa, hWa⟩ : ∃ Wa, w.drew.alloc (.cells #[.int .u8 (m : Int)] 5) = Wa := ⟨_, rfl⟩
        have hcw : (convert 60 9 (.slice (some ⟨w.heap.size, 0, none⟩) 1 1)).run Tryd.prog Wa = .ok (.string (ofL [UInt8.ofNat m])) Wa := by rw [← hWa]; exact hcv w.drew
        have hBa : Below w.heap.size w Wa := by rw [← hWa]; exact (Below.refl _ w).drew.alloc (Nat.le_refl _) _
        obtain ⟨Jo, hJo⟩ : ∃ Jo : (Nat → Bool) → World → Prop, Jo = fun f W => W = if f 13 then Wa else w.drew := ⟨_, rfl⟩
        have Jof : ∀ f W, Jo f W = (W = if f 13 then Wa else w.drew) := fun f W => by rw [hJo]
        have y2 : IntKind.i64.wrap ((i : Int) + 2) = (i : Int) + 2 := by rw [IntKind.wrap_i64]; omega
        have y3 : IntKind.i64.wrap ((i : Int) + 3) = (i : Int) + 3 := by rw [IntKind.wrap_i64]; clear y2; omega
        have y4 : IntKind.i64.wrap (16 * (dgV d2 : Int)) = 16 * (dgV d2 : Int) := by rw [IntKind.wrap_i64]; clear y2 y3; omega
        have y5 : IntKind.i64.wrap (16 * (dgV d2 : Int) + (dgV d3 : Int)) = (m : Int) := by rw [hm4, IntKind.wrap_i64]; clear y2 y3 y4; omega
        have y6 : IntKind.u8.wrap (m : Int) = (m : Int) := by rw [IntKind.wrap_u8']; clear y2 y3 y4 y5; omega
        refine region_last 155 (fun j => if j = 15 then 4 else if j = 16 then 5 else 56 + j) ((0, (Value.string s)) :: (1, (Value.int IntKind.i64 ↑i)) :: (2, undef) :: (3, undef) :: (6, undef) :: (7, undef) :: (8, undef) :: (9, (Value.int IntKind.i64 ↑i)) :: (10, (Value.int IntKind.i64 (↑i + 1))) :: (11, (Value.string s)) :: (12, (Value.int IntKind.i64 ↑s.size)) :: (13, (Value.bool false)) :: (14, (Value.string s)) :: (15, (Value.int IntKind.i64 ↑i)) :: (16, (Value.int IntKind.i64 (↑i + 1))) :: (17, (Value.int IntKind.u8 120)) :: (18, (Value.bool false)) :: (19, (Value.bool false)) :: (20, (Value.bool false)) :: (21, undef) :: (22, undef) :: (23, undef) :: (24, undef) :: (25, undef) :: (26, undef) :: (27, (Value.bool false)) :: (28, (Value.bool false)) :: (29, (Value.bool false)) :: (30, (Value.bool false)) :: (31, (Value.bool false)) :: (32, (Value.bool false)) :: (33, (Value.bool true)) :: (34, (Value.bool true)) :: (35, (Value.int IntKind.i64 ↑i)) :: (36, (Value.int IntKind.i64 (↑i + 3))) :: (37, (Value.string s)) :: (38, (Value.int IntKind.i64 ↑s.size)) :: (39, (Value.bool true)) :: (40, (Value.bool true)) :: (41, (Value.string s)) :: (42, (Value.int IntKind.i64 ↑i)) :: (43, (Value.int IntKind.i64 (↑i + 2))) :: (44, (Value.int IntKind.u8 ↑d2)) :: (45, (Value.int IntKind.i64 ↑(dgV d2))) :: (46, (Value.bool true)) :: (47, (Value.bool true)) :: (48, (Value.bool true)) :: (49, (Value.string s)) :: (50, (Value.int IntKind.i64 ↑i)) :: (51, (Value.int IntKind.i64 (↑i + 3))) :: (52, (Value.int IntKind.u8 ↑d3)) :: (53, (Value.int IntKind.i64 ↑(dgV d3))) :: (54, (Value.bool true)) :: (55, (Value.bool true)) :: (71, undef) :: (72, undef) :: (73, undef) :: (74, undef) :: (75, undef) :: (76, undef) :: (77, undef) :: (78, undef) :: (79, undef) :: (80, undef) :: (81, undef) :: (82, undef) :: (83, undef) :: (84, undef) :: (85, undef) :: (86, undef) :: (87, undef) :: (88, undef) :: (89, undef) :: (90, undef) :: (91, undef) :: (92, undef) :: (93, undef) :: (94, undef) :: (95, undef) :: (96, undef) :: (97, undef) :: (98, undef) :: (99, undef) :: (100, undef) :: (101, undef) :: (102, undef) :: (103, undef) :: (104, undef) :: (105, undef) :: (106, undef) :: (107, undef) :: (108, undef) :: (109, undef) :: (110, undef) :: (111, undef) :: (112, undef) :: (113, undef) :: (114, undef) :: (115, undef) :: (116, undef) :: (117, undef) :: (118, undef) :: (119, undef) :: (120, undef) :: (121, undef) :: (122, undef) :: (123, undef) :: (124, undef) :: (125, undef) :: (126, undef) :: (127, undef) :: (128, undef) :: (129, undef) :: (130, undef) :: (131, undef) :: (132, undef) :: (133, undef) :: (134, undef) :: (135, undef) :: (136, undef) :: (137, undef) :: (138, undef) :: (139, undef) :: (140, undef) :: (141, undef) :: (142, undef) :: (143, undef) :: (144, undef) :: (145, undef) :: (146, undef) :: (147, undef) :: (148, undef) :: (149, undef) :: (150, undef) :: (151, undef) :: (152, undef) :: (153, undef) :: (154, undef) :: []) (Value.int IntKind.i64 0) Jo (valsOf [isV (.string s), isV (.int .i64 (i : Int)), isV (.int .i64 ((i : Int) + 2)), isV (.int .u8 (d2 : Int)), isV (.int .i64 (dgV d2 : Int)), isV (.int .i64 (16 * (dgV d2 : Int))), isV (.string s), isV (.int .i64 (i : Int)), isV (.int .i64 ((i : Int) + 3)), isV (.int .u8 (d3 : Int)), isV (.int .i64 (dgV d3 : Int)), isV (.int .i64 (m : Int)), isV (.int .u8 (m : Int)), isV (.slice (some ⟨w.heap.size, 0, none⟩) 1 1), isV (.string (ofL [UInt8.ofNat m])), isV (.string (ofL [UInt8.ofNat m])), isV (.int .i64 4)]) (fun w w' => w.heap.size ≤ w'.heap.size) ?fit ?last (fun j f => valsOf_stable (Stables.all ?stable) j) [] ?gs ?gv ?steps ?fin _ _ ?sz rfl ?base rfl (by rw [Jof]; simp)
        case fit => kernel_rfl
        case last => kernel_rfl
        case sz => rfl
        case gs => kernel_rfl
        case gv => intro p hp; cases hp
        case base => intro p hp; repeat (first | (rcases List.mem_cons.1 hp with rfl | hp; · rfl) | cases hp)
        case stable => repeat (first | exact .nil | refine .same ?_)
        case steps =>
          refine .cons (fun f ρ W hno hyes hρ hJ hu hb hd => by
            have d0 : ρ (.tmp 0) = (Value.string s) := hb (0, _) (List.mem_of_getElem? (i := 0) rfl)
            exact step_move (.tmp 0) rfl ⟨Nat.le_refl _, by rw [Jof] at hJ ⊢; simpa using hJ, d0⟩) ?_
          refine .cons (fun f ρ W hno hyes hρ hJ hu hb hd => by
            have d0 : ρ (.tmp 1) = (Value.int IntKind.i64 ↑i) := hb (1, _) (List.mem_of_getElem? (i := 1) rfl)
            exact step_move (.tmp 1) rfl ⟨Nat.le_refl _, by rw [Jof] at hJ ⊢; simpa using hJ, d0⟩) ?_
          refine .cons (fun f ρ W hno hyes hρ hJ hu hb hd => by
            have d0 : ρ (.tmp 57) = (.int .i64 (i : Int)) := hd 0 _ rfl rfl
            exact step_val (v := (.int .i64 ((i : Int) + 2))) (w' := W) (by simp [go_sem, execOp, d0, hρ.const, j1, j2, j3, j4, t2, t3, g2, g3, y2, y3, y4, y5, y6, hm2]) ⟨Nat.le_refl _, by rw [Jof] at hJ ⊢; simpa using hJ, rfl⟩) ?_
          refine .cons (fun f ρ W hno hyes hρ hJ hu hb hd => by
            have d0 : ρ (.tmp 56) = (.string s) := hd 0 _ rfl rfl
            have d1 : ρ (.tmp 58) = (.int .i64 ((i : Int) + 2)) := hd 1 _ rfl rfl
            exact step_val (v := (.int .u8 (d2 : Int))) (w' := W) (by simp [go_sem, execOp, d0, d1, hρ.const, j1, j2, j3, j4, t2, t3, g2, g3, y2, y3, y4, y5, y6, hm2]) ⟨Nat.le_refl _, by rw [Jof] at hJ ⊢; simpa using hJ, rfl⟩) ?_
          refine .cons (fun f ρ W hno hyes hρ hJ hu hb hd => by
            have d0 : ρ (.tmp 59) = (.int .u8 (d2 : Int)) := hd 0 _ rfl rfl
            refine step_func 57 _ _ #[.int .u8 (d2 : Int)] hρ rfl (fun _ _ => rfl) (by simp [d0]) ?_
            refine (value_in d2 hv2 W).mono ?_
            rintro e W' ⟨rfl, rfl⟩
            exact ⟨_, rfl, Nat.le_refl _, by rw [Jof] at hJ ⊢; simpa using hJ, by rw [v2]; rfl⟩) ?_
          refine .cons (fun f ρ W hno hyes hρ hJ hu hb hd => by
            have d0 : ρ (.tmp 60) = (.int .i64 (dgV d2 : Int)) := hd 0 _ rfl rfl
            exact step_val (v := (.int .i64 (16 * (dgV d2 : Int)))) (w' := W) (by simp [go_sem, execOp, d0, hρ.const, j1, j2, j3, j4, t2, t3, g2, g3, y2, y3, y4, y5, y6, hm2]) ⟨Nat.le_refl _, by rw [Jof] at hJ ⊢; simpa using hJ, rfl⟩) ?_
          refine .cons (fun f ρ W hno hyes hρ hJ hu hb hd => by
            have d0 : ρ (.tmp 0) = (Value.string s) := hb (0, _) (List.mem_of_getElem? (i := 0) rfl)
            exact step_move (.tmp 0) rfl ⟨Nat.le_refl _, by rw [Jof] at hJ ⊢; simpa using hJ, d0⟩) ?_
          refine .cons (fun f ρ W hno hyes hρ hJ hu hb hd => by
            have d0 : ρ (.tmp 1) = (Value.int IntKind.i64 ↑i) := hb (1, _) (List.mem_of_getElem? (i := 1) rfl)
            exact step_move (.tmp 1) rfl ⟨Nat.le_refl _, by rw [Jof] at hJ ⊢; simpa using hJ, d0⟩) ?_
          refine .cons (fun f ρ W hno hyes hρ hJ hu hb hd => by
            have d0 : ρ (.tmp 63) = (.int .i64 (i : Int)) := hd 0 _ rfl rfl
            exact step_val (v := (.int .i64 ((i : Int) + 3))) (w' := W) (by simp [go_sem, execOp, d0, hρ.const, j1, j2, j3, j4, t2, t3, g2, g3, y2, y3, y4, y5, y6, hm2]) ⟨Nat.le_refl _, by rw [Jof] at hJ ⊢; simpa using hJ, rfl⟩) ?_
          refine .cons (fun f ρ W hno hyes hρ hJ hu hb hd => by
            have d0 : ρ (.tmp 62) = (.string s) := hd 0 _ rfl rfl
            have d1 : ρ (.tmp 64) = (.int .i64 ((i : Int) + 3)) := hd 1 _ rfl rfl
            exact step_val (v := (.int .u8 (d3 : Int))) (w' := W) (by simp [go_sem, execOp, d0, d1, hρ.const, j1, j2, j3, j4, t2, t3, g2, g3, y2, y3, y4, y5, y6, hm2]) ⟨Nat.le_refl _, by rw [Jof] at hJ ⊢; simpa using hJ, rfl⟩) ?_
          refine .cons (fun f ρ W hno hyes hρ hJ hu hb hd => by
            have d0 : ρ (.tmp 65) = (.int .u8 (d3 : Int)) := hd 0 _ rfl rfl
            refine step_func 57 _ _ #[.int .u8 (d3 : Int)] hρ rfl (fun _ _ => rfl) (by simp [d0]) ?_
            refine (value_in d3 hv3 W).mono ?_
            rintro e W' ⟨rfl, rfl⟩
            exact ⟨_, rfl, Nat.le_refl _, by rw [Jof] at hJ ⊢; simpa using hJ, by rw [v3]; rfl⟩) ?_
          refine .cons (fun f ρ W hno hyes hρ hJ hu hb hd => by
            have d0 : ρ (.tmp 61) = (.int .i64 (16 * (dgV d2 : Int))) := hd 0 _ rfl rfl
            have d1 : ρ (.tmp 66) = (.int .i64 (dgV d3 : Int)) := hd 1 _ rfl rfl
            exact step_val (v := (.int .i64 (m : Int))) (w' := W) (by simp [go_sem, execOp, d0, d1, hρ.const, j1, j2, j3, j4, t2, t3, g2, g3, y2, y3, y4, y5, y6, hm2]) ⟨Nat.le_refl _, by rw [Jof] at hJ ⊢; simpa using hJ, rfl⟩) ?_
          refine .cons (fun f ρ W hno hyes hρ hJ hu hb hd => by
            have d0 : ρ (.tmp 67) = (.int .i64 (m : Int)) := hd 0 _ rfl rfl
            exact step_val (v := (.int .u8 (m : Int))) (w' := W) (by simp [go_sem, execOp, d0, hρ.const, j1, j2, j3, j4, t2, t3, g2, g3, y2, y3, y4, y5, y6, hm2]) ⟨Nat.le_refl _, by rw [Jof] at hJ ⊢; simpa using hJ, rfl⟩) ?_
          refine .cons (fun f ρ W hno hyes hρ hJ hu hb hd => by
            have d0 : ρ (.tmp 68) = (.int .u8 (m : Int)) := hd 0 _ rfl rfl
            have e1 : W = w.drew := by
              rw [Jof] at hJ
              simpa [hno 13 (.inl rfl)] using hJ
            subst e1
            exact step_val (v := (.slice (some ⟨w.heap.size, 0, none⟩) 1 1)) (w' := Wa) (by rw [← hWa]; simp [go_sem, execOp, d0]) ⟨by rw [← hWa]; simp, by rw [Jof]; simp, rfl⟩) ?_
          refine .cons (fun f ρ W hno hyes hρ hJ hu hb hd => by
            have d0 : ρ (.tmp 69) = (.slice (some ⟨w.heap.size, 0, none⟩) 1 1) := hd 0 _ rfl rfl
            have e1 : W = Wa := by
              rw [Jof] at hJ
              simpa [show f 13 = true from hyes 0 _ rfl rfl] using hJ
            subst e1
            exact step_val (v := (.string (ofL [UInt8.ofNat m]))) (w' := W) (by simp [go_sem, execOp, d0, hcw]) ⟨Nat.le_refl _, by rw [Jof] at hJ ⊢; simpa using hJ, rfl⟩) ?_
          refine .cons (fun f ρ W hno hyes hρ hJ hu hb hd => by
            have d0 : ρ (.tmp 70) = (.string (ofL [UInt8.ofNat m])) := hd 0 _ rfl rfl
            exact step_assign (.tmp 70) rfl ⟨Nat.le_refl _, by rw [Jof] at hJ ⊢; simpa using hJ, d0⟩) ?_
          refine .cons (fun f ρ W hno hyes hρ hJ hu hb hd => by
            exact step_assign (.const (.int .i64 4)) rfl ⟨Nat.le_refl _, by rw [Jof] at hJ ⊢; simpa using hJ, (hρ.const _)⟩) (.nil _)
        case fin =>
          intro ac W5 hsz2 hds hb hJ hv
          obtain ⟨f, hf, hJ⟩ := hJ
          obtain rfl : W5 = Wa := by rw [Jof, hf 13 (by decide)] at hJ; simpa using hJ
          obtain rfl := frame_of (((0, (Value.string s)) :: (1, (Value.int IntKind.i64 ↑i)) :: (2, undef) :: (3, undef) :: (6, undef) :: (7, undef) :: (8, undef) :: (9, (Value.int IntKind.i64 ↑i)) :: (10, (Value.int IntKind.i64 (↑i + 1))) :: (11, (Value.string s)) :: (12, (Value.int IntKind.i64 ↑s.size)) :: (13, (Value.bool false)) :: (14, (Value.string s)) :: (15, (Value.int IntKind.i64 ↑i)) :: (16, (Value.int IntKind.i64 (↑i + 1))) :: (17, (Value.int IntKind.u8 120)) :: (18, (Value.bool false)) :: (19, (Value.bool false)) :: (20, (Value.bool false)) :: (21, undef) :: (22, undef) :: (23, undef) :: (24, undef) :: (25, undef) :: (26, undef) :: (27, (Value.bool false)) :: (28, (Value.bool false)) :: (29, (Value.bool false)) :: (30, (Value.bool false)) :: (31, (Value.bool false)) :: (32, (Value.bool false)) :: (33, (Value.bool true)) :: (34, (Value.bool true)) :: (35, (Value.int IntKind.i64 ↑i)) :: (36, (Value.int IntKind.i64 (↑i + 3))) :: (37, (Value.string s)) :: (38, (Value.int IntKind.i64 ↑s.size)) :: (39, (Value.bool true)) :: (40, (Value.bool true)) :: (41, (Value.string s)) :: (42, (Value.int IntKind.i64 ↑i)) :: (43, (Value.int IntKind.i64 (↑i + 2))) :: (44, (Value.int IntKind.u8 ↑d2)) :: (45, (Value.int IntKind.i64 ↑(dgV d2))) :: (46, (Value.bool true)) :: (47, (Value.bool true)) :: (48, (Value.bool true)) :: (49, (Value.string s)) :: (50, (Value.int IntKind.i64 ↑i)) :: (51, (Value.int IntKind.i64 (↑i + 3))) :: (52, (Value.int IntKind.u8 ↑d3)) :: (53, (Value.int IntKind.i64 ↑(dgV d3))) :: (54, (Value.bool true)) :: (55, (Value.bool true)) :: (71, undef) :: (72, undef) :: (73, undef) :: (74, undef) :: (75, undef) :: (76, undef) :: (77, undef) :: (78, undef) :: (79, undef) :: (80, undef) :: (81, undef) :: (82, undef) :: (83, undef) :: (84, undef) :: (85, undef) :: (86, undef) :: (87, undef) :: (88, undef) :: (89, undef) :: (90, undef) :: (91, undef) :: (92, undef) :: (93, undef) :: (94, undef) :: (95, undef) :: (96, undef) :: (97, undef) :: (98, undef) :: (99, undef) :: (100, undef) :: (101, undef) :: (102, undef) :: (103, undef) :: (104, undef) :: (105, undef) :: (106, undef) :: (107, undef) :: (108, undef) :: (109, undef) :: (110, undef) :: (111, undef) :: (112, undef) :: (113, undef) :: (114, undef) :: (115, undef) :: (116, undef) :: (117, undef) :: (118, undef) :: (119, undef) :: (120, undef) :: (121, undef) :: (122, undef) :: (123, undef) :: (124, undef) :: (125, undef) :: (126, undef) :: (127, undef) :: (128, undef) :: (129, undef) :: (130, undef) :: (131, undef) :: (132, undef) :: (133, undef) :: (134, undef) :: (135, undef) :: (136, undef) :: (137, undef) :: (138, undef) :: (139, undef) :: (140, undef) :: (141, undef) :: (142, undef) :: (143, undef) :: (144, undef) :: (145, undef) :: (146, undef) :: (147, undef) :: (148, undef) :: (149, undef) :: (150, undef) :: (151, undef) :: (152, undef) :: (153, undef) :: (154, undef) :: []) ++ [(56, (.string s)), (57, (.int .i64 (i : Int))), (58, (.int .i64 ((i : Int) + 2))), (59, (.int .u8 (d2 : Int))), (60, (.int .i64 (dgV d2 : Int))), (61, (.int .i64 (16 * (dgV d2 : Int)))), (62, (.string s)), (63, (.int .i64 (i : Int))), (64, (.int .i64 ((i : Int) + 3))), (65, (.int .u8 (d3 : Int))), (66, (.int .i64 (dgV d3 : Int))), (67, (.int .i64 (m : Int))), (68, (.int .u8 (m : Int))), (69, (.slice (some ⟨w.heap.size, 0, none⟩) 1 1)), (70, (.string (ofL [UInt8.ofNat m]))), (4, (.string (ofL [UInt8.ofNat m]))), (5, (.int .i64 4))]) ((Value.string s) :: (Value.int IntKind.i64 ↑i) :: undef :: undef :: (.string (ofL [UInt8.ofNat m])) :: (.int .i64 4) :: undef :: undef :: undef :: (Value.int IntKind.i64 ↑i) :: (Value.int IntKind.i64 (↑i + 1)) :: (Value.string s) :: (Value.int IntKind.i64 ↑s.size) :: (Value.bool false) :: (Value.string s) :: (Value.int IntKind.i64 ↑i) :: (Value.int IntKind.i64 (↑i + 1)) :: (Value.int IntKind.u8 120) :: (Value.bool false) :: (Value.bool false) :: (Value.bool false) :: undef :: undef :: undef :: undef :: undef :: undef :: (Value.bool false) :: (Value.bool false) :: (Value.bool false) :: (Value.bool false) :: (Value.bool false) :: (Value.bool false) :: (Value.bool true) :: (Value.bool true) :: (Value.int IntKind.i64 ↑i) :: (Value.int IntKind.i64 (↑i + 3)) :: (Value.string s) :: (Value.int IntKind.i64 ↑s.size) :: (Value.bool true) :: (Value.bool true) :: (Value.string s) :: (Value.int IntKind.i64 ↑i) :: (Value.int IntKind.i64 (↑i + 2)) :: (Value.int IntKind.u8 ↑d2) :: (Value.int IntKind.i64 ↑(dgV d2)) :: (Value.bool true) :: (Value.bool true) :: (Value.bool true) :: (Value.string s) :: (Value.int IntKind.i64 ↑i) :: (Value.int IntKind.i64 (↑i + 3)) :: (Value.int IntKind.u8 ↑d3) :: (Value.int IntKind.i64 ↑(dgV d3)) :: (Value.bool true) :: (Value.bool true) :: (.string s) :: (.int .i64 (i : Int)) :: (.int .i64 ((i : Int) + 2)) :: (.int .u8 (d2 : Int)) :: (.int .i64 (dgV d2 : Int)) :: (.int .i64 (16 * (dgV d2 : Int))) :: (.string s) :: (.int .i64 (i : Int)) :: (.int .i64 ((i : Int) + 3)) :: (.int .u8 (d3 : Int)) :: (.int .i64 (dgV d3 : Int)) :: (.int .i64 (m : Int)) :: (.int .u8 (m : Int)) :: (.slice (some ⟨w.heap.size, 0, none⟩) 1 1) :: (.string (ofL [UInt8.ofNat m])) :: undef :: undef :: undef :: undef :: undef :: undef :: undef :: undef :: undef :: undef :: undef :: undef :: undef :: undef :: undef :: undef :: undef :: undef :: undef :: undef :: undef :: undef :: undef :: undef :: undef :: undef :: undef :: undef :: undef :: undef :: undef :: undef :: undef :: undef :: undef :: undef :: undef :: undef :: undef :: undef :: undef :: undef :: undef :: undef :: undef :: undef :: undef :: undef :: undef :: undef :: undef :: undef :: undef :: undef :: undef :: undef :: undef :: undef :: undef :: undef :: undef :: undef :: undef :: undef :: undef :: undef :: undef :: undef :: undef :: undef :: undef :: undef :: undef :: undef :: undef :: undef :: undef :: undef :: undef :: undef :: undef :: undef :: undef :: undef :: []) hsz2 hds (fun p hp => by
            rcases List.mem_append.1 hp with h | h
            · exact hb p h
            · simp only [List.mem_cons, List.not_mem_nil, or_false] at h
              rcases h with rfl | rfl | rfl | rfl | rfl | rfl | rfl | rfl | rfl | rfl | rfl | rfl | rfl | rfl | rfl | rfl | rfl
              · exact hv 0 (by decide)
              · exact hv 1 (by decide)
              · exact hv 2 (by decide)
              · exact hv 3 (by decide)
              · exact hv 4 (by decide)
              · exact hv 5 (by decide)
              · exact hv 6 (by decide)
              · exact hv 7 (by decide)
              · exact hv 8 (by decide)
              · exact hv 9 (by decide)
              · exact hv 10 (by decide)
              · exact hv 11 (by decide)
              · exact hv 12 (by decide)
              · exact hv 13 (by decide)
              · exact hv 14 (by decide)
              · exact hv 15 (by decide)
              · exact hv 16 (by decide)) rfl
          clear hb hv hds hsz2
          go_wp2
          go_ret2
          exact ⟨rfl, hBa⟩
      · have v3 := vaI_no q3
        rw [hN (fun x => q3 x.2.2), res_none]
        clear hY hN hd2 hd3 h1
        go_enter Tryd.func44, Tryd.ntmps44
        go_wp2_with (go_at_call 57; refine (value_in _ (by first | exact hv2 | exact hv3) _).mono ?_; rintro e w' ⟨rfl, rfl⟩)
        go_ret2
        exact ⟨rfl, Below.refl _ _⟩
    · have v2 := vaI_no q2
      rw [hN (fun x => q2 x.2.1), res_none]
      clear hY hN hd2 hd3 h1
      go_enter Tryd.func44, Tryd.ntmps44
      go_wp2_with (go_at_call 57; refine (value_in _ (by first | exact hv2 | exact hv3) _).mono ?_; rintro e w' ⟨rfl, rfl⟩)
      go_ret2
      exact ⟨rfl, Below.refl _ _⟩
  · have j1 : ¬ (i : Int) + 3 < (s.size : Int) := by omega
    rw [byteE_no (by omega), res_none]
    clear h1
    go_enter Tryd.func44, Tryd.ntmps44
    go_wp2
    go_ret2
    exact ⟨rfl, Below.refl _ _⟩

end Go.Proofs.YticjilkcobpcjaaDoor
