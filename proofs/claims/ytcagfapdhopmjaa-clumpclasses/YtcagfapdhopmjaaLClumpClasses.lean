/-
  Chapter 2's law ClumpClasses returns true for every number that is a rune's kind and every text, and leaves its arguments as they were; no condition.
-/
import Derived.Test.YtcagfapdhopmjaaRows
import Derived.WalkKit
import Derived.ProofKit
import Derived.OpenShut
import Derived.ShutString
import Derived.ChangeOld
import Derived.Below
import Derived.Test.YtcagfapdhopmjaaKno
import Derived.Test.YtcagfapdhopmjaaRRun
import Derived.Test.YtcagfapdhopmjaaReg
import Derived.Test.YtcagfapdhopmjaaRegB
set_option linter.unusedVariables false
set_option linter.unusedSimpArgs false
namespace Go.Proofs.Ytcagfapdhopmjaa
namespace LClumpClasses
open Go.ChangeShapes Go.WideShapes Go.ChangeAt Go.RowKit Go.Lib
open Go.ChangeMaps (open_string shut_string)

theorem rk_cell {W : World} {g off cap : Nat} {v : Value} {zs : List Int} (h : RK .i32 W v zs) (hv : v = .slice (some ⟨g, off, none⟩) zs.length cap) (j : Nat) (z : Int) (hj : zs[j]? = some z) : W.cell? ⟨g, off + j, none⟩ = some (.int .i32 z) := by
  have hlt := (List.getElem?_eq_some_iff.1 hj).1
  rcases h with ⟨rfl, _⟩ | ⟨b, o, c, e, hc⟩
  · cases hlt
  · rw [hv] at e
    cases e
    rw [hc j hlt, hj]; rfl

set_option maxRecDepth 100000 in
set_option maxHeartbeats 4000000 in
theorem walk (a0 : Int) (a1 : ByteArray) (w0 : (Lit.int .i32 a0).wf = true) (w1 : a1.size ≤ maxLen) (w : World) :
    Calls Try.prog 3 #[.int .i32 a0, .string a1] w fun e w' => e = .returned (.bool true) ∧ Below w.heap.size w w' := by
  unfold maxLen at w1
  by_cases hbig : 20000 < a1.size
  · go_enter Try.func3, Try.ntmps3
    go_wp2_with (go_at_call 9; refine (known_in _).mono ?_; rintro e w' ⟨rfl, hB⟩)
    go_ret
    exact ⟨rfl, hB⟩
  · have hs8 : a1.size ≤ 1000000000 := by omega
    have hd0 : decide ((20000 : Int) < (a1.size : Int)) = false := by simp; omega
    have hal := allL_length a1
    have hrl := runeL_length a1
    have hrr := hide (runeL_range a1)
    go_enter Try.func3, Try.ntmps3
    go_wp2
    go_loopw [5] (fun dv wr => ∃ d : Int, -2 ≤ d ∧ d ≤ 3 ∧ dv = .int .i32 d ∧ Below w.heap.size w wr) (fun dv _ => (3 - RowKit.intOf dv).toNat)
    case atStart => exact ⟨-2, by omega, by omega, rfl, Below.refl _ _⟩
    case round =>
      obtain ⟨d, hd1, hd2, rfl, hB⟩ := hrel
      by_cases hlt : d ≤ 2
      · have hw := Go.bounds_i32 (RowKit.wrap32_wf (a0 + d))
        have hsz := hB.size
        have q1 : ∀ c : Int, (c != c) = false := fun c => by simp
        go_wp2_with fail
        refine (class_in _ hw.1 hw.2 _).mono ?_
        rintro e w2 ⟨rfl, b2⟩
        have hB2 := hB.trans (b2.mono hsz)
        go_wp2_with fail
        refine (refClass_in _ hw.1 hw.2 _).mono ?_
        rintro e w3 ⟨rfl, b3⟩
        have hB3 := hB2.trans (b3.mono hB2.size)
        go_wp2
        go_roundw
        case rel => exact ⟨d + 1, by omega, by omega, by go_num, hB3⟩
        case measure => simp [RowKit.intOf]; omega
      · go_wp2_with fail
        refine (refRunes_in a1 hs8 _).mono ?_
        rintro e W ⟨v, rfl, ho, hB1⟩
        have hBW := hB.trans (hB1.mono hB.size)
        have hsW := hBW.size
        obtain ⟨x, c, rfl⟩ := owns_form ho
        have hRK := hide (RK.of_owns ho)
        obtain ⟨L, hL⟩ : ∃ L, (runeL a1).length = L := ⟨_, rfl⟩
        rw [hL] at ho hrl ⊢
        have hLb : L ≤ 20000 := by omega
        have HL := hide hL
        clear hL hrl hal
        have q1 : ∀ c : Int, (c != c) = false := fun c => by simp
        go_wp2
        go_loopw [7] (fun iv wr => ∃ k : Nat, k ≤ L ∧ iv = .int .i64 k ∧ Below W.heap.size W wr) (fun iv _ => L - (RowKit.intOf iv).toNat)
        case atStart => exact ⟨0, by omega, rfl, Below.refl _ _⟩
        case round =>
          obtain ⟨k, hk, rfl, hBr⟩ := hrel
          by_cases hlt2 : k < L
          · obtain ⟨g, rfl⟩ := owns_some ho (by omega)
            obtain ⟨z, hz⟩ : ∃ z, (runeL a1)[k]? = some z := ⟨_, List.getElem?_eq_getElem (by rw [unhide HL]; exact hlt2)⟩
            have hzr := unhide hrr z (List.mem_of_getElem? hz)
            have hcell : ∀ w', Below wr.heap.size wr w' → w'.cell? ⟨g, k, none⟩ = some (.int .i32 z) := fun w' hb => by
              have h1 := RK.below hb (RK.below hBr (unhide hRK))
              have := rk_cell h1 (by rw [unhide HL]) k z hz
              rwa [Nat.zero_add] at this
            have i1 : (k : Int) < (L : Int) := by omega
            have i2 : (0 : Int) ≤ (k : Int) := by omega
            have hszr := hBr.size
            go_wp2
            refine wp_region_any (by kernel_rfl) ?_
            change wpAny _ _ _ _ _ _ _ (World.drew _)
            refine region_invB 45 (fun j => 33 + j) [(0, (Value.int IntKind.i32 a0)), (1, (Value.string a1)), (2, undef), (3, undef), (4, u4), (5, (Value.int IntKind.i32 d)), (6, (Value.slice (some { block := g, off := 0 }) L c)), (7, (Value.int IntKind.i64 ↑k)), (8, (Value.string a1)), (9, (Value.int IntKind.i64 ↑a1.size)), (10, (Value.bool false)), (11, undef), (12, (Value.int IntKind.i32 d)), (13, (Value.bool false)), (14, u14), (15, u15), (16, u16), (17, u17), (18, u18), (19, u19), (20, u20), (21, u21), (22, u22), (23, u23), (24, u24), (25, (Value.string a1)), (26, (Value.slice (some { block := g, off := 0 }) L c)), (27, (Value.int IntKind.i64 ↑k)), (28, (Value.slice (some { block := g, off := 0 }) L c)), (29, (Value.int IntKind.i64 ↑L)), (30, (Value.bool true)), (31, u31), (32, u32), (44, undef)] (fun W' => Below wr.heap.size wr W') (valsOf [isV ((Value.slice (some { block := g, off := 0 }) L c)), isV ((Value.int IntKind.i64 ↑k)), isV ((.pointer (some ⟨g, k, none⟩))), isV ((.int .i32 z)), isV ((.int .i64 (cls z))), isV ((Value.slice (some { block := g, off := 0 }) L c)), isV ((Value.int IntKind.i64 ↑k)), isV ((.pointer (some ⟨g, k, none⟩))), isV ((.int .i32 z)), isV ((.int .i64 (cls z))), isV ((.bool false))]) (fun w w' => Below w.heap.size w w') ?fit (fun w1 w2 h hG => h.trans (hG.mono h.size)) (valsOf_stable ?stable) [] ?gs ?gv ?steps ?fin _ _ ?sz rfl ?base ((Below.refl _ _).drew)
            case fit => kernel_rfl
            case sz => rfl
            case gs => kernel_rfl
            case gv => intro p hp w v hv; cases hp
            case base => intro p hp; repeat (first | (rcases List.mem_cons.1 hp with rfl | hp; · rfl) | cases hp)
            case stable => exact Stables.all (by repeat (first | exact .nil | refine .same ?_))
            case steps =>
              refine .cons (fun ρ w hρ hJ hb hd => by
                have d0 : ρ (.tmp 6) = (Value.slice (some { block := g, off := 0 }) L c) := hb (6, _) (List.mem_of_getElem? (i := 6) rfl)
                exact step_move (.tmp 6) rfl ⟨Below.refl _ _, d0⟩) ?_
              refine .cons (fun ρ w hρ hJ hb hd => by
                have d0 : ρ (.tmp 7) = (Value.int IntKind.i64 ↑k) := hb (7, _) (List.mem_of_getElem? (i := 7) rfl)
                exact step_move (.tmp 7) rfl ⟨Below.refl _ _, d0⟩) ?_
              refine .cons (fun ρ w hρ hJ hb hd => by
                have d0 : ρ (.tmp 33) = (Value.slice (some { block := g, off := 0 }) L c) := hd 0 _ rfl rfl
                have d1 : ρ (.tmp 34) = (Value.int IntKind.i64 ↑k) := hd 1 _ rfl rfl
                exact step_val (v := (.pointer (some ⟨g, k, none⟩))) (w' := w) (by simp [go_sem, execOp, d0, d1, hρ.const, i1, i2]) ⟨Below.refl _ _, rfl⟩) ?_
              refine .cons (fun ρ w hρ hJ hb hd => by
                have d0 : ρ (.tmp 35) = (.pointer (some ⟨g, k, none⟩)) := hd 0 _ rfl rfl
                have c1 := hcell w hJ
                exact step_val (v := (.int .i32 z)) (w' := w) (by simp [go_sem, execOp, d0, c1]) ⟨Below.refl _ _, rfl⟩) ?_
              refine .cons (fun ρ w hρ hJ hb hd => by
                have d0 : ρ (.tmp 36) = (.int .i32 z) := hd 0 _ rfl rfl
                refine step_func 10 _ _ #[.int .i32 z] hρ rfl (enters_of Try.func10 (by kernel_rfl) rfl) (by simp [d0]) ?_
                refine (class_in _ (by omega) (by omega) _).mono ?_
                rintro e w2 ⟨rfl, hB⟩
                exact ⟨_, rfl, hB, rfl⟩) ?_
              refine .cons (fun ρ w hρ hJ hb hd => by
                have d0 : ρ (.tmp 6) = (Value.slice (some { block := g, off := 0 }) L c) := hb (6, _) (List.mem_of_getElem? (i := 6) rfl)
                exact step_move (.tmp 6) rfl ⟨Below.refl _ _, d0⟩) ?_
              refine .cons (fun ρ w hρ hJ hb hd => by
                have d0 : ρ (.tmp 7) = (Value.int IntKind.i64 ↑k) := hb (7, _) (List.mem_of_getElem? (i := 7) rfl)
                exact step_move (.tmp 7) rfl ⟨Below.refl _ _, d0⟩) ?_
              refine .cons (fun ρ w hρ hJ hb hd => by
                have d0 : ρ (.tmp 38) = (Value.slice (some { block := g, off := 0 }) L c) := hd 0 _ rfl rfl
                have d1 : ρ (.tmp 39) = (Value.int IntKind.i64 ↑k) := hd 1 _ rfl rfl
                exact step_val (v := (.pointer (some ⟨g, k, none⟩))) (w' := w) (by simp [go_sem, execOp, d0, d1, hρ.const, i1, i2]) ⟨Below.refl _ _, rfl⟩) ?_
              refine .cons (fun ρ w hρ hJ hb hd => by
                have d0 : ρ (.tmp 40) = (.pointer (some ⟨g, k, none⟩)) := hd 0 _ rfl rfl
                have c1 := hcell w hJ
                exact step_val (v := (.int .i32 z)) (w' := w) (by simp [go_sem, execOp, d0, c1]) ⟨Below.refl _ _, rfl⟩) ?_
              refine .cons (fun ρ w hρ hJ hb hd => by
                have d0 : ρ (.tmp 41) = (.int .i32 z) := hd 0 _ rfl rfl
                refine step_func 11 _ _ #[.int .i32 z] hρ rfl (enters_of Try.func11 (by kernel_rfl) rfl) (by simp [d0]) ?_
                refine (refClass_in _ (by omega) (by omega) _).mono ?_
                rintro e w2 ⟨rfl, hB⟩
                exact ⟨_, rfl, hB, rfl⟩) ?_
              refine .cons (fun ρ w hρ hJ hb hd => by
                have d0 : ρ (.tmp 37) = (.int .i64 (cls z)) := hd 0 _ rfl rfl
                have d1 : ρ (.tmp 42) = (.int .i64 (cls z)) := hd 1 _ rfl rfl
                exact step_val (v := (.bool false)) (w' := w) (by simp [go_sem, execOp, d0, d1, hρ.const, i1, i2]) ⟨Below.refl _ _, rfl⟩) (.nil _)
            case fin =>
              intro a W5 hsz2 hds hb hJ hv
              obtain rfl := frame_of ([(0, (Value.int IntKind.i32 a0)), (1, (Value.string a1)), (2, undef), (3, undef), (4, u4), (5, (Value.int IntKind.i32 d)), (6, (Value.slice (some { block := g, off := 0 }) L c)), (7, (Value.int IntKind.i64 ↑k)), (8, (Value.string a1)), (9, (Value.int IntKind.i64 ↑a1.size)), (10, (Value.bool false)), (11, undef), (12, (Value.int IntKind.i32 d)), (13, (Value.bool false)), (14, u14), (15, u15), (16, u16), (17, u17), (18, u18), (19, u19), (20, u20), (21, u21), (22, u22), (23, u23), (24, u24), (25, (Value.string a1)), (26, (Value.slice (some { block := g, off := 0 }) L c)), (27, (Value.int IntKind.i64 ↑k)), (28, (Value.slice (some { block := g, off := 0 }) L c)), (29, (Value.int IntKind.i64 ↑L)), (30, (Value.bool true)), (31, u31), (32, u32), (44, undef)] ++ [(33, (Value.slice (some { block := g, off := 0 }) L c)), (34, (Value.int IntKind.i64 ↑k)), (35, (.pointer (some ⟨g, k, none⟩))), (36, (.int .i32 z)), (37, (.int .i64 (cls z))), (38, (Value.slice (some { block := g, off := 0 }) L c)), (39, (Value.int IntKind.i64 ↑k)), (40, (.pointer (some ⟨g, k, none⟩))), (41, (.int .i32 z)), (42, (.int .i64 (cls z))), (43, (.bool false))]) [(Value.int IntKind.i32 a0), (Value.string a1), undef, undef, u4, (Value.int IntKind.i32 d), (Value.slice (some { block := g, off := 0 }) L c), (Value.int IntKind.i64 ↑k), (Value.string a1), (Value.int IntKind.i64 ↑a1.size), (Value.bool false), undef, (Value.int IntKind.i32 d), (Value.bool false), u14, u15, u16, u17, u18, u19, u20, u21, u22, u23, u24, (Value.string a1), (Value.slice (some { block := g, off := 0 }) L c), (Value.int IntKind.i64 ↑k), (Value.slice (some { block := g, off := 0 }) L c), (Value.int IntKind.i64 ↑L), (Value.bool true), u31, u32, (Value.slice (some { block := g, off := 0 }) L c), (Value.int IntKind.i64 ↑k), (.pointer (some ⟨g, k, none⟩)), (.int .i32 z), (.int .i64 (cls z)), (Value.slice (some { block := g, off := 0 }) L c), (Value.int IntKind.i64 ↑k), (.pointer (some ⟨g, k, none⟩)), (.int .i32 z), (.int .i64 (cls z)), (.bool false), undef] hsz2 hds (fun p hp => by
                rcases List.mem_append.1 hp with h | h
                · exact hb p h
                · simp only [List.mem_cons, List.not_mem_nil, or_false] at h
                  rcases h with rfl | rfl | rfl | rfl | rfl | rfl | rfl | rfl | rfl | rfl | rfl
                  · exact hv 0 (by decide)
                  · exact hv 1 (by decide)
                  · exact hv 2 (by decide)
                  · exact hv 3 (by decide)
                  · exact hv 4 (by decide)
                  · exact hv 5 (by decide)
                  · exact hv 6 (by decide)
                  · exact hv 7 (by decide)
                  · exact hv 8 (by decide)
                  · exact hv 9 (by decide)
                  · exact hv 10 (by decide)) rfl
              clear hb hv hds hsz2
              have hB9 := hBr.trans (hJ.mono hszr)
              go_wp2
              go_roundw
              case rel => exact ⟨k + 1, by omega, by go_num, hB9⟩
              case measure => simp [RowKit.intOf]; omega
          · have i1 : ¬ (k : Int) < (L : Int) := by omega
            have hB9 := hBW.trans (hBr.mono hsW)
            go_wp2_with (go_at_call 9; refine (known_in _).mono ?_; rintro e w' ⟨rfl, hBk⟩)
            go_ret
            exact ⟨rfl, hB9.trans (hBk.mono hB9.size)⟩

theorem own : ownKnob Try.prog.godebug = none := by kernel_rfl

set_option maxRecDepth 100000 in
theorem lifted (os : Os) (started : os.Started) (H : Type) (enc : TypeId × Value → H) :
    ReturnsInHanded {} Try.checked os 3 .any (Rows.clumpClassesSpec.pre6 enc Try.prog Try.f3 Rows.clumpClassesRow.domain false) (Rows.clumpClassesSpec.post enc Try.prog Try.f3 false true false false) := by
  refine returnsInHanded_of_change (C := Try.checked) own started (by kernel_rfl) Try.func3
    (ChangeSpec.witness6 (enc := enc) (C := Try.checked) false ⟨#[], #[.int .i32 0, .string ByteArray.empty], []⟩ 8 (by kernel_rfl) (by kernel_rfl) (by kernel_rfl) (by kernel_rfl)) ?_
  intro W base args ds gs before hval0 hW hcnd _
  have hval : ∀ (j : Nat) t v, Try.f3.params[j]? = some t → args[j]? = some v → Value.okWide Try.prog W .any base t v := hval0
  have hW' := hW
  obtain ⟨p, q, hA0, hV, rfl, hfz, hnd⟩ := hW
  have hA : DataW.TrodAll enc Try.prog W 0 (fun _ => true) true Try.f3.params.toList args.toList ds p := hA0
  rw [Try.params3] at hA hval
  obtain ⟨v0, vs0, d0, ds0, p0, q0, hargs, rfl, rfl, h0, r0⟩ := trodAll_cons hA
  obtain ⟨v1, vs1, d1, ds1, p1, q1, rfl, rfl, rfl, h1, r1⟩ := trodAll_cons r0
  obtain ⟨rfl, rfl, rfl⟩ := trodAll_nil r1
  obtain rfl : args = #[v0, v1] := by cases args; simp_all
  obtain ⟨rfl, rfl⟩ := trodVars_none hV
  obtain ⟨a0, rfl, rfl, rfl, w0⟩ := open_int Try.underlying21 (hval 0 21 v0 rfl rfl) h0
  obtain ⟨a1, rfl, rfl, rfl, w1⟩ := open_string Try.underlying9 (hval 1 9 v1 rfl rfl) h1
  clear hA0 hval0
  simp only [List.append_nil] at hW'
  refine (walk a0 a1 w0 w1 W).mono fun e W' ⟨he, bel⟩ => ?_
  subst he
  exact ⟨_, rfl, _, _, _, [], _, [], hW', trodAll_mk1 (shut_bool Try.underlying4 _), (trodAll_cons_mk (shut_int Try.underlying21 w0) (trodAll_cons_mk (shut_string Try.underlying9 w1) trodAll_mk0)), rfl, bel.frame _, fun h => by cases h⟩

theorem over : Rows.clumpClassesRow.holds Try.pinned (OpenSpec.ofChange Rows.clumpClassesSpec) :=
  OpenClaim.holds_of_wide 3 Try.f3 rfl rfl rfl rfl rfl rfl rfl ⟨rfl, rfl, rfl, rfl, rfl⟩ rfl rfl rfl rfl rfl (by kernel_rfl) Try.func3 (by kernel_rfl)
    (of_decide_eq_true (by kernel_rfl)) (by unfold Func.isWrapper; first | (rw [if_pos (by decide +kernel)]; kernel_rfl) | (rw [if_neg (by decide +kernel)]; exact ⟨rfl, rfl⟩))
    (fun os started H enc _ => lifted os started H enc)

end LClumpClasses

theorem clumpClasses_holds : Rows.ClumpClassesSaid := LClumpClasses.over

end Go.Proofs.Ytcagfapdhopmjaa
