/-
  Chapter 2's law ClumpAlls returns true for every text and every number, and leaves its arguments as they were; no condition.
-/
import Derived.Test.YtcagfapdhopmjaaRows
import Derived.WalkKit
import Derived.ProofKit
import Derived.OpenShut
import Derived.ShutString
import Derived.ChangeOld
import Derived.Below
import Derived.Test.YtcagfapdhopmjaaKno
import Derived.Test.YtcagfapdhopmjaaAls2
import Derived.Test.YtcagfapdhopmjaaRegB
import Derived.Lib.Strings
set_option linter.unusedVariables false
set_option linter.unusedSimpArgs false
namespace Go.Proofs.Ytcagfapdhopmjaa
namespace LClumpAlls
open Go.ChangeShapes Go.WideShapes Go.ChangeAt Go.RowKit Go.Lib
open Go.ChangeMaps (open_string shut_string)

set_option maxRecDepth 100000 in
set_option maxHeartbeats 16000000 in
theorem walk (a0 : ByteArray) (a1 : Int) (w0 : a0.size ≤ maxLen) (w1 : (Lit.int .i64 a1).wf = true) (w : World) :
    Calls Try.prog 5 #[.string a0, .int .i64 a1] w fun e w' => e = .returned (.bool true) ∧ Below w.heap.size w w' := by
  unfold maxLen at w0
  have hb64 := Go.bounds_i64 w1
  have bS := Boxed.new w 3 (.int .i64 a1)
  have hBS : Below w.heap.size w (w.alloc (.cells #[.int .i64 a1] 3)) := (Below.refl _ w).alloc (Nat.le_refl _) _
  by_cases hbig : 20000 < a0.size
  · go_enter Try.func5, Try.ntmps5
    go_wp2_with (go_at_call 9; refine (known_in _).mono ?_; rintro e w' ⟨rfl, hB⟩)
    go_ret
    exact ⟨rfl, hBS.trans (hB.mono (by simp))⟩
  · have hs6 : a0.size ≤ 1000000 := by omega
    have hs : a0.size ≤ 140737488355328 := by omega
    have hd0 : decide ((20000 : Int) < (a0.size : Int)) = false := by simp; omega
    have hcl := cp_len a0
    go_enter Try.func5, Try.ntmps5
    go_wp2_with fail
    refine (refAll_in a0 hs6 _).mono ?_
    rintro e W1 ⟨v, rfl, ho, hB1⟩
    obtain ⟨x, c, rfl⟩ := owns_form ho
    have hB1' := hBS.trans (hB1.mono hBS.size)
    go_wp2_with fail
    refine (clumpAll_in a0 _).mono ?_
    rintro e W2 ⟨rfl, rfl⟩
    go_wp2
    have t0 := Boxed.new W1 31 (.slice x (cpL a0).length c)
    have t1 := Boxed.new (W1.alloc (.cells #[.slice x (cpL a0).length c] 31)) 9 (.string a0)
    have t2 := Boxed.new ((W1.alloc (.cells #[.slice x (cpL a0).length c] 31)).alloc (.cells #[.string a0] 9)) 34 (Value.func (Fn.func 36) #[] #[Value.pointer (some { block := W1.heap.size + 1, off := 0 })])
    simp only [World.size_alloc] at t1 t2
    have hB3' : Below W1.heap.size W1 (((W1.alloc (.cells #[.slice x (cpL a0).length c] 31)).alloc (.cells #[.string a0] 9)).alloc (.cells #[(Value.func (Fn.func 36) #[] #[Value.pointer (some { block := W1.heap.size + 1, off := 0 })])] 34)) := (((Below.refl _ W1).alloc (Nat.le_refl _) _).alloc (by simp) _).alloc (by simp; omega) _
    have hB3 := hB1'.trans (hB3'.mono hB1'.size)
    have hE : EnvM a0 a1 w.heap.size W1.heap.size (W1.heap.size + 1) (W1.heap.size + 1 + 1) x c (w.alloc (.cells #[.int .i64 a1] 3)).heap.size (((W1.alloc (.cells #[.slice x (cpL a0).length c] 31)).alloc (.cells #[.string a0] 9)).alloc (.cells #[(Value.func (Fn.func 36) #[] #[Value.pointer (some { block := W1.heap.size + 1, off := 0 })])] 34)) :=
      ⟨boxed_below (boxed_below bS hB1) hB3', (t0.alloc _).alloc _, t1.alloc _, t2, owns_below ho hB3'⟩
    generalize (((W1.alloc (.cells #[.slice x (cpL a0).length c] 31)).alloc (.cells #[.string a0] 9)).alloc (.cells #[(Value.func (Fn.func 36) #[] #[Value.pointer (some { block := W1.heap.size + 1, off := 0 })])] 34)) = W3 at hB3 hE ⊢
    clear t0 t1 t2 hB3' ho bS hB1 hBS hB1'
    have hs3 := hB3.size
    refine wp_region_any (by kernel_rfl) ?_
    change wpAny _ _ _ _ _ _ _ (World.drew _)
    refine region_invB 59 (fun j => 20 + j) [(0, (Value.string a0)), (1, (Value.int IntKind.i64 a1)), (2, undef), (3, (Value.pointer (some { block := w.heap.size, off := 0 }))), (4, (Value.bool false)), (5, (Value.pointer (some { block := W1.heap.size, off := 0 }))), (6, (Value.pointer (some { block := W1.heap.size + 1 + 1, off := 0 }))), (7, undef), (8, undef), (9, undef), (10, undef), (11, undef), (12, (Value.string a0)), (13, (Value.int IntKind.i64 ↑a0.size)), (14, (Value.bool false)), (15, undef), (16, (Value.string a0)), (17, (Value.slice x (cpL a0).length c)), (18, (Value.string a0)), (19, (Value.func (Fn.func 36) #[] #[Value.pointer (some { block := W1.heap.size + 1, off := 0 })])), (29, undef), (30, undef), (31, undef), (32, undef), (33, undef), (34, undef), (35, undef), (36, undef), (37, undef), (38, undef), (39, undef), (40, undef), (41, undef), (42, undef), (43, undef), (44, undef), (45, undef), (46, undef), (47, undef), (48, undef), (49, undef), (50, undef), (51, undef), (52, undef), (53, undef), (54, undef), (55, undef), (56, undef), (57, undef), (58, undef)] (fun W' => Below W3.heap.size W3 W') (valsOf [isV ((Value.func (Fn.func 36) #[] #[Value.pointer (some { block := W1.heap.size + 1, off := 0 })])), isV ((.bool false)), isV ((.bool false)), isV ((Value.string a0)), isV ((.int .i64 ((cpL a0).length : Nat))), isV ((Value.slice x (cpL a0).length c)), isV ((.int .i64 ((cpL a0).length : Nat))), isV ((.bool false)), isV ((.bool false))]) (fun w w' => Below w.heap.size w w') ?fit (fun w1 w2 h hG => h.trans (hG.mono h.size)) (valsOf_stable ?stable) [(2, false)] ?gs ?gv ?steps ?fin _ _ ?sz rfl ?base ((Below.refl _ _).drew)
    case fit => kernel_rfl
    case sz => rfl
    case gs => kernel_rfl
    case gv => intro p hp w v hv; simp only [List.mem_cons, List.not_mem_nil, or_false] at hp; rcases hp with rfl <;> exact hv
    case base => intro p hp; repeat (first | (rcases List.mem_cons.1 hp with rfl | hp; · rfl) | cases hp)
    case stable => exact Stables.all (by repeat (first | exact .nil | refine .same ?_))
    case steps =>
      refine .cons (fun ρ w hρ hJ hb hd => by
        have d0 : ρ (.tmp 6) = (Value.pointer (some { block := W1.heap.size + 1 + 1, off := 0 })) := hb (6, _) (List.mem_of_getElem? (i := 6) rfl)
        have c1 := (hE.below hJ).it.cell
        exact step_val (v := (Value.func (Fn.func 36) #[] #[Value.pointer (some { block := W1.heap.size + 1, off := 0 })])) (w' := w) (by simp [go_sem, execOp, d0, c1]) ⟨Below.refl _ _, rfl⟩) ?_
      refine .cons (fun ρ w hρ hJ hb hd => by
        have d0 : ρ (.tmp 20) = (Value.func (Fn.func 36) #[] #[Value.pointer (some { block := W1.heap.size + 1, off := 0 })]) := hd 0 _ rfl rfl
        exact step_val (v := (.bool false)) (w' := w) (by simp [go_sem, execOp, d0, hρ.const, run_eql_func_nil _ _ _ _ _ Try.underlying34]) ⟨Below.refl _ _, rfl⟩) ?_
      refine .cons (fun ρ w hρ hJ hb hd => by
        have d0 : ρ (.tmp 21) = (.bool false) := hd 0 _ rfl rfl
        exact step_move (.tmp 21) rfl ⟨Below.refl _ _, d0⟩) ?_
      refine .cons (fun ρ w hρ hJ hb hd => by
        have d0 : ρ (.tmp 0) = (Value.string a0) := hb (0, _) (List.mem_of_getElem? (i := 0) rfl)
        exact step_move (.tmp 0) rfl ⟨Below.refl _ _, d0⟩) ?_
      refine .cons (fun ρ w hρ hJ hb hd => by
        have d0 : ρ (.tmp 23) = (Value.string a0) := hd 0 _ rfl rfl
        refine step_func 16 _ _ #[.string a0] hρ rfl (enters_of Try.func16 (by kernel_rfl) rfl) (by simp [d0]) ?_
        refine (clumpCount_in _ hs (by omega) _).mono ?_
        rintro e w2 ⟨rfl, hB⟩
        exact ⟨_, rfl, hB, rfl⟩) ?_
      refine .cons (fun ρ w hρ hJ hb hd => by
        have d0 : ρ (.tmp 5) = (Value.pointer (some { block := W1.heap.size, off := 0 })) := hb (5, _) (List.mem_of_getElem? (i := 5) rfl)
        have c1 := (hE.below hJ).wa.cell
        exact step_val (v := (Value.slice x (cpL a0).length c)) (w' := w) (by simp [go_sem, execOp, d0, c1]) ⟨Below.refl _ _, rfl⟩) ?_
      refine .cons (fun ρ w hρ hJ hb hd => by
        have d0 : ρ (.tmp 25) = (Value.slice x (cpL a0).length c) := hd 0 _ rfl rfl
        exact step_val (v := (.int .i64 ((cpL a0).length : Nat))) (w' := w) (by simp [go_sem, execOp, d0, hρ.const]) ⟨Below.refl _ _, rfl⟩) ?_
      refine .cons (fun ρ w hρ hJ hb hd => by
        have d0 : ρ (.tmp 24) = (.int .i64 ((cpL a0).length : Nat)) := hd 0 _ rfl rfl
        have d1 : ρ (.tmp 26) = (.int .i64 ((cpL a0).length : Nat)) := hd 1 _ rfl rfl
        exact step_val (v := (.bool false)) (w' := w) (by simp [go_sem, execOp, d0, d1, hρ.const]) ⟨Below.refl _ _, rfl⟩) ?_
      refine .cons (fun ρ w hρ hJ hb hd => by
        have d0 : ρ (.tmp 22) = (.bool false) := hd 0 _ rfl rfl
        have d1 : ρ (.tmp 27) = (.bool false) := hd 1 _ rfl rfl
        exact step_val (v := (.bool false)) (w' := w) (by simp [go_sem, execOp, d0, d1, hρ.const]) ⟨Below.refl _ _, rfl⟩) (.nil _)
    case fin =>
      intro ac W5 hsz2 hds hb hJ hv
      obtain rfl := frame_of ([(0, (Value.string a0)), (1, (Value.int IntKind.i64 a1)), (2, undef), (3, (Value.pointer (some { block := w.heap.size, off := 0 }))), (4, (Value.bool false)), (5, (Value.pointer (some { block := W1.heap.size, off := 0 }))), (6, (Value.pointer (some { block := W1.heap.size + 1 + 1, off := 0 }))), (7, undef), (8, undef), (9, undef), (10, undef), (11, undef), (12, (Value.string a0)), (13, (Value.int IntKind.i64 ↑a0.size)), (14, (Value.bool false)), (15, undef), (16, (Value.string a0)), (17, (Value.slice x (cpL a0).length c)), (18, (Value.string a0)), (19, (Value.func (Fn.func 36) #[] #[Value.pointer (some { block := W1.heap.size + 1, off := 0 })])), (29, undef), (30, undef), (31, undef), (32, undef), (33, undef), (34, undef), (35, undef), (36, undef), (37, undef), (38, undef), (39, undef), (40, undef), (41, undef), (42, undef), (43, undef), (44, undef), (45, undef), (46, undef), (47, undef), (48, undef), (49, undef), (50, undef), (51, undef), (52, undef), (53, undef), (54, undef), (55, undef), (56, undef), (57, undef), (58, undef)] ++ [(20, (Value.func (Fn.func 36) #[] #[Value.pointer (some { block := W1.heap.size + 1, off := 0 })])), (21, (.bool false)), (22, (.bool false)), (23, (Value.string a0)), (24, (.int .i64 ((cpL a0).length : Nat))), (25, (Value.slice x (cpL a0).length c)), (26, (.int .i64 ((cpL a0).length : Nat))), (27, (.bool false)), (28, (.bool false))]) [(Value.string a0), (Value.int IntKind.i64 a1), undef, (Value.pointer (some { block := w.heap.size, off := 0 })), (Value.bool false), (Value.pointer (some { block := W1.heap.size, off := 0 })), (Value.pointer (some { block := W1.heap.size + 1 + 1, off := 0 })), undef, undef, undef, undef, undef, (Value.string a0), (Value.int IntKind.i64 ↑a0.size), (Value.bool false), undef, (Value.string a0), (Value.slice x (cpL a0).length c), (Value.string a0), (Value.func (Fn.func 36) #[] #[Value.pointer (some { block := W1.heap.size + 1, off := 0 })]), (Value.func (Fn.func 36) #[] #[Value.pointer (some { block := W1.heap.size + 1, off := 0 })]), (.bool false), (.bool false), (Value.string a0), (.int .i64 ((cpL a0).length : Nat)), (Value.slice x (cpL a0).length c), (.int .i64 ((cpL a0).length : Nat)), (.bool false), (.bool false), undef, undef, undef, undef, undef, undef, undef, undef, undef, undef, undef, undef, undef, undef, undef, undef, undef, undef, undef, undef, undef, undef, undef, undef, undef, undef, undef, undef, undef, undef] hsz2 hds (fun p hp => by
        rcases List.mem_append.1 hp with h | h
        · exact hb p h
        · simp only [List.mem_cons, List.not_mem_nil, or_false] at h
          rcases h with rfl | rfl | rfl | rfl | rfl | rfl | rfl | rfl | rfl
          · exact hv 0 (by decide)
          · exact hv 1 (by decide)
          · exact hv 2 (by decide)
          · exact hv 3 (by decide)
          · exact hv 4 (by decide)
          · exact hv 5 (by decide)
          · exact hv 6 (by decide)
          · exact hv 7 (by decide)
          · exact hv 8 (by decide)) rfl
      clear hb hv hds hsz2
      have hE5 := hE.below hJ
      have hB5 := hB3.trans (hJ.mono hs3)
      have hs5 := hB5.size
      clear hE hJ hB3 hs3
      obtain ⟨B1, hB1⟩ : ∃ B1, W1.heap.size = B1 := ⟨_, rfl⟩
      obtain ⟨B0, hB0⟩ : ∃ B0, (w.alloc (.cells #[.int .i64 a1] 3)).heap.size = B0 := ⟨_, rfl⟩
      rw [hB0] at hE5
      rw [hB1] at hE5 ⊢
      clear hB0 hB1
      obtain ⟨L, hL⟩ : ∃ L, (cpL a0).length = L := ⟨_, rfl⟩
      have hE6 := hide hE5
      clear hE5
      rw [hL] at hcl ⊢
      have HL := hide hL
      clear hL
      go_wp2
      go_loopw [7] (fun iv wr => ∃ i : Nat, i ≤ 2 ∧ iv = .int .i64 i ∧ Below W5.heap.size W5 wr) (fun iv _ => 2 - (RowKit.intOf iv).toNat)
      case atStart => exact ⟨0, by omega, rfl, Below.refl _ _⟩
      case round =>
        obtain ⟨i, hi2, rfl, hBr⟩ := hrel
        have hszr := hBr.size
        have hEr := (unhide hE6).below hBr
        by_cases hlt : i < 2
        · have i1 : (i : Int) < 2 := by omega
          have c1 := (((hEr.it.alloc (.cells #[.int .i64 0] 3)).alloc (.cells #[.int .i64 0] 3)).alloc (.cells #[.bool true] 4)).cell
          have hout := outer_in a0 hs6 a1 _ _ _ _ _ _ _ wr hEr
          go_wp2_with fail
          refine hout.mono ?_
          rintro e W6 ⟨rfl, ⟨hB6, hN6⟩, hP6, hO6⟩
          have hE7 := hEr.below hB6
          have c2 := hO6.cell
          have c3 := hN6.cell
          have c4 := hE7.wa.cell
          rw [unhide HL] at c3 c4
          have hB7 := hBr.trans (hB6.mono hszr)
          have hs7 := hB7.size
          clear hout c1
          go_wp2
          go_roundw
          case rel => exact ⟨i + 1, by omega, by go_num, hB7⟩
          case measure => simp [RowKit.intOf]; omega
        · have i1 : ¬ (i : Int) < 2 := by omega
          have c1 := (hEr.it.alloc (.cells #[.int .i64 0] 3)).cell
          have hout := lastcall_in a0 hs6 a1 _ _ _ _ _ _ _ wr hEr
          go_wp2_with fail
          refine hout.mono ?_
          rintro e W6 ⟨rfl, k, hkL, hk, hk6, hb6⟩
          have hE7 := hEr.below hb6
          have c2 := hk6.cell
          have c3 := hE7.wa.cell
          have c4 := hE7.st.cell
          rw [unhide HL] at c3 hk hkL
          have hB7 := hB5.trans ((hBr.trans (hb6.mono hszr)).mono hs5)
          clear hout c1
          by_cases hkl : k = L
          · subst hkl
            clear hk
            go_wp2_with fail
            refine (known_in _).mono ?_
            rintro e w4 ⟨rfl, b4⟩
            go_wp2
            go_ret
            exact ⟨rfl, hB7.trans (b4.mono hB7.size)⟩
          · have hks : (k : Int) = a1 := hk.resolve_left hkl
            have j1 : ¬ (k : Int) = (L : Int) := by omega
            clear hk
            subst hks
            go_wp2_with fail
            refine (known_in _).mono ?_
            rintro e w4 ⟨rfl, b4⟩
            go_wp2
            go_ret
            exact ⟨rfl, hB7.trans (b4.mono hB7.size)⟩

theorem own : ownKnob Try.prog.godebug = none := by kernel_rfl

set_option maxRecDepth 100000 in
theorem lifted (os : Os) (started : os.Started) (H : Type) (enc : TypeId × Value → H) :
    ReturnsInHanded {} Try.checked os 5 .any (Rows.clumpAllsSpec.pre6 enc Try.prog Try.f5 Rows.clumpAllsRow.domain false) (Rows.clumpAllsSpec.post enc Try.prog Try.f5 false true false false) := by
  refine returnsInHanded_of_change (C := Try.checked) own started (by kernel_rfl) Try.func5
    (ChangeSpec.witness6 (enc := enc) (C := Try.checked) false ⟨#[], #[.string ByteArray.empty, .int .i64 0], []⟩ 8 (by kernel_rfl) (by kernel_rfl) (by kernel_rfl) (by kernel_rfl)) ?_
  intro W base args ds gs before hval0 hW hcnd _
  have hval : ∀ (j : Nat) t v, Try.f5.params[j]? = some t → args[j]? = some v → Value.okWide Try.prog W .any base t v := hval0
  have hW' := hW
  obtain ⟨p, q, hA0, hV, rfl, hfz, hnd⟩ := hW
  have hA : DataW.TrodAll enc Try.prog W 0 (fun _ => true) true Try.f5.params.toList args.toList ds p := hA0
  rw [Try.params5] at hA hval
  obtain ⟨v0, vs0, d0, ds0, p0, q0, hargs, rfl, rfl, h0, r0⟩ := trodAll_cons hA
  obtain ⟨v1, vs1, d1, ds1, p1, q1, rfl, rfl, rfl, h1, r1⟩ := trodAll_cons r0
  obtain ⟨rfl, rfl, rfl⟩ := trodAll_nil r1
  obtain rfl : args = #[v0, v1] := by cases args; simp_all
  obtain ⟨rfl, rfl⟩ := trodVars_none hV
  obtain ⟨a0, rfl, rfl, rfl, w0⟩ := open_string Try.underlying9 (hval 0 9 v0 rfl rfl) h0
  obtain ⟨a1, rfl, rfl, rfl, w1⟩ := open_int Try.underlying3 (hval 1 3 v1 rfl rfl) h1
  clear hA0 hval0
  simp only [List.append_nil] at hW'
  refine (walk a0 a1 w0 w1 W).mono fun e W' ⟨he, bel⟩ => ?_
  subst he
  exact ⟨_, rfl, _, _, _, [], _, [], hW', trodAll_mk1 (shut_bool Try.underlying4 _), (trodAll_cons_mk (shut_string Try.underlying9 w0) (trodAll_cons_mk (shut_int Try.underlying3 w1) trodAll_mk0)), rfl, bel.frame _, fun h => by cases h⟩

theorem over : Rows.clumpAllsRow.holds Try.pinned (OpenSpec.ofChange Rows.clumpAllsSpec) :=
  OpenClaim.holds_of_wide 5 Try.f5 rfl rfl rfl rfl rfl rfl rfl ⟨rfl, rfl, rfl, rfl, rfl⟩ rfl rfl rfl rfl rfl (by kernel_rfl) Try.func5 (by kernel_rfl)
    (of_decide_eq_true (by kernel_rfl)) (by unfold Func.isWrapper; first | (rw [if_pos (by decide +kernel)]; kernel_rfl) | (rw [if_neg (by decide +kernel)]; exact ⟨rfl, rfl⟩))
    (fun os started H enc _ => lifted os started H enc)

end LClumpAlls

theorem clumpAlls_holds : Rows.ClumpAllsSaid := LClumpAlls.over

end Go.Proofs.Ytcagfapdhopmjaa
