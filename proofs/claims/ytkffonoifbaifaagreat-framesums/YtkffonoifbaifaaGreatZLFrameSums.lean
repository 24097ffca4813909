/-
  Chapter 10's law FrameSums returns true for all bytes, every number and every byte, and leaves its arguments as they were; no condition.
-/
import Derived.Test.YtkffonoifbaifaaGreatRows
import Derived.WalkKit
import Derived.ProofKit
import Derived.OpenShut
import Derived.ShutString
import Derived.ChangeOld
import Derived.Below
import Derived.Test.YtkffonoifbaifaaGreatZOB
set_option linter.unusedVariables false
set_option linter.unusedSimpArgs false
namespace Go.Proofs.YtkffonoifbaifaaGreat
namespace LFrameSums
open Go.ChangeShapes Go.WideShapes Go.ChangeAt Go.RowKit Go.Lib
open Go.ChangeMaps (open_string shut_string)

theorem wf64' {n : Int} (h : (Lit.int .i64 n).wf = true) : -9223372036854775808 ≤ n ∧ n ≤ 9223372036854775807 := by
  simp [Lit.wf, IntKind.min, IntKind.max, IntKind.bits, IntKind.signed] at h
  omega
theorem wf8' {n : Int} (h : (Lit.int .u8 n).wf = true) : 0 ≤ n ∧ n ≤ 255 := by
  simp [Lit.wf, IntKind.min, IntKind.max, IntKind.bits, IntKind.signed] at h
  omega
set_option maxRecDepth 100000 in
set_option maxHeartbeats 8000000 in
theorem walk (a0 : Option Addr) (len0 cap0 : Nat) (l : List Nat) (i0 : Int) (by0 : Int) (w : World) (w0 : RC w (.slice a0 len0 cap0) l.length (bC l) ∧ l.length = len0 ∧ len0 ≤ maxLen ∧ ∀ e ∈ l, e < 256) (w1 : (Lit.int .i64 i0).wf = true) (w2 : (Lit.int .u8 by0).wf = true) :
    Calls Tryz.prog 3 #[.slice a0 len0 cap0, .int .i64 i0, .int .u8 by0] w fun e W => e = .returned (.bool true) ∧ Below w.heap.size w W := by
  obtain ⟨r0, e0, m0, hb0⟩ := w0
  have hat := wf64' w1
  have hby := wf8' w2
  unfold maxLen at m0
  have HK := hide (fun W => known_in W)
  clear w1 w2
  obtain ⟨by', rfl⟩ : ∃ b : Nat, by0 = (b : Int) := ⟨by0.toNat, by omega⟩
  by_cases hl0 : 60000 < len0
  · have hl0' : (60000 : Int) < (len0 : Int) := by omega
    go_enter Tryz.func3, Tryz.ntmps3
    go_wp2_with fail
    refine (unhide HK _).mono ?_
    rintro r W1 ⟨rfl, hb⟩
    go_wp2
    go_ret
    exact ⟨rfl, hb⟩
  have hl0' : ¬ (60000 : Int) < (len0 : Int) := by omega
  obtain ⟨Z0, hZ0⟩ : ∃ Z, w.alloc (.cells #[] 5) = Z := ⟨_, rfl⟩
  have bZ0 : Below w.heap.size w Z0 := by rw [← hZ0]; exact ballc (Below.refl _ _) _
  have O1 : Z0.ownsRow w.heap.size 5 1 (.slice (some ⟨w.heap.size, 0, none⟩) 0 0) ([] : List Nat).length (bC []) := by rw [← hZ0]; exact own_empty w
  obtain ⟨v1, W1, hr1, O2, hg1, hn1⟩ := app_bytes Z0 22 w.heap.size _ (.slice a0 len0 cap0) [] l O1 (by simp) (RC.below r0 bZ0) bZ0.size (by simp) (by omega)
  have k1 := Kp.of_grown (N := fun k => k = w.heap.size) hg1 (fun k hk => by simp [Value.ownBlock] at hk; exact hk.symm)
  have B1 : Below w.heap.size w W1 := k1.below bZ0 (fun i e => by omega)
  rw [List.nil_append] at O2
  obtain ⟨a1, c1, rfl⟩ := owns_form O2
  obtain ⟨Z1, hZ1⟩ : ∃ Z, W1.alloc (.cells #[.int .u8 171] 5) = Z := ⟨_, rfl⟩
  have bZ1 : Below W1.heap.size W1 Z1 := by rw [← hZ1]; exact ballc (Below.refl _ _) _
  have R1 : RC Z1 (.slice (some ⟨W1.heap.size, 0, none⟩) 1 1) [171].length (bC [171]) := by rw [← hZ1]; exact RC.of_owns (own_one W1 171)
  obtain ⟨v2, W2, hr2, O3, hg2, hn2⟩ := app_bytes Z1 22 w.heap.size _ _ l [171] (owns_kp (N := fun _ => False) O2 (Kp.of_below bZ1) (fun _ _ e => e)) hn1 R1 (bnext B1 bZ1).size (by omega) (by simp)
  have k2 := Kp.of_grown (N := fun k => (Value.slice a1 l.length c1).ownBlock = some k) hg2 (fun k hk => hk)
  have B2 : Below w.heap.size w W2 := k2.below (bnext B1 bZ1) (fun i e => (O2.lt i e).1)
  obtain ⟨g, cap, rfl, hcap⟩ := owns_mark O3
  rw [e0] at hcap hr1 hr2
  have G0 : GV w W2 g cap len0 l := ⟨by rw [List.length_append, List.length_singleton, e0] at O3; exact O3, e0, hb0, B2, hcap⟩
  have hP := hide (show RB W2 (.slice a0 len0 cap0) l from RC.below r0 B2)
  have hS := fun W (hb : Below W2.heap.size W2 W) => hide (Sum_in (.slice (some ⟨g, 0, none⟩) len0 cap) l W (RC.below G0.row hb) (by omega))
  have hR := fun W (hb : Below W2.heap.size W2 W) => hide (rSum_in (.slice a0 len0 cap0) l W (RC.below (unhide hP) hb) (by omega))
  have hBy := fun W (hb : Below W2.heap.size W2 W) => hide ((bytes_in l l (.slice (some ⟨g, 0, none⟩) len0 cap) (.slice a0 len0 cap0) W (RC.below G0.row hb) (RC.below (unhide hP) hb) (by omega) (by omega)).mono (fun e W' h => (show e = .returned (.bool true) ∧ Below W.heap.size W W' from ⟨by rw [h.1]; simp, by obtain ⟨n, rfl⟩ := h.2; exact bdrew (Below.refl _ _) n⟩)))
  have hncap : (len0 : Int) ≤ (cap : Int) := by have := G0.room; omega
  have hmk := fun W (hb : Below W2.heap.size W2 W) => (G0.below hb).mark
  replace G0 := hide G0
  have hS := hide hS
  have hR := hide hR
  have hBy := hide hBy
  have hmk := hide hmk
  replace hr1 := hide hr1
  replace hr2 := hide hr2
  clear O1 O2 O3 hg1 hg2 k1 k2 B1 B2 hn1 hn2 bZ0 bZ1 R1 r0 hb0 e0 hP
  go_enter Tryz.func3, Tryz.ntmps3
  go_wp2_with (first | (at_builtin; first | (have hr1' := hr1; clear hr1; refine wpList_append_eq rfl _ _ 22 rfl _ _ _ _ rfl rfl (unhide hr1') ?_; clear hr1') | (refine wpList_append_eq rfl _ _ 22 rfl _ _ _ _ rfl rfl (unhide hr2) ?_)) | fail)
  clear hr2 hZ0 hZ1
  refine (unhide (unhide hS _ (Below.refl _ _))).mono ?_
  rintro r W3 ⟨rfl, hb3⟩
  have HR3 := unhide hR _ hb3
  clear hS hR
  go_wp2_with fail
  refine (unhide HR3).mono ?_
  rintro r W4 ⟨rfl, hb4⟩
  have HB4 := unhide hBy _ (bnext hb3 hb4)
  clear hBy HR3
  go_wp2_with fail
  refine (unhide HB4).mono ?_
  rintro r W5 ⟨rfl, hb5⟩
  have B5 := hide (bnext (bnext hb3 hb4) hb5)
  have hm5 := unhide hmk _ (unhide B5)
  have G5 := hide ((unhide G0).below (unhide B5))
  have kx : (len0 : Int) < (len0 : Int) + 1 := by omega
  clear hb3 hb4 hb5 HB4 hmk G0
  by_cases hz : len0 = 0
  · subst hz
    have HB := hide (unhide G5).bel
    clear G5
    go_wp2_with fail
    refine (unhide HK _).mono ?_
    rintro r W6 ⟨rfl, hb6⟩
    go_wp2
    go_ret
    exact ⟨rfl, bnext (unhide HB) hb6⟩
  have hz1 : ((len0 : Int) == 0) = false := by rw [beq_eq_false_iff_ne]; omega
  have hz2 : (len0 : Int) ≠ 0 := by omega
  go_upto_region 9 with fail
  have ht := Int.tmod_lt_of_pos i0 (show (0 : Int) < (len0 : Int) by omega)
  have ht2 : -(len0 : Int) < Int.tmod i0 (len0 : Int) := by
    have := Int.tmod_lt_of_pos (-i0) (show (0 : Int) < (len0 : Int) by omega)
    rw [Int.neg_tmod] at this
    omega
  obtain ⟨rr, hr⟩ : ∃ r, Int.tmod i0 (len0 : Int) = r := ⟨_, rfl⟩
  rw [hr] at ht ht2
  have hr' := hide hr
  go_upto_if 52 with fail
  clear hr
  go_cut [1] from 53 to 56 (fun v wx => ∃ j : Nat, v = .int .i64 (j : Int) ∧ j < len0 ∧ wx = W5)
  case first =>
    by_cases hn : rr < 0
    · go_wp2
      go_meet
      case rel => exact ⟨(rr + len0).toNat, by rw [Int.toNat_of_nonneg (by omega)], by omega, rfl⟩
    · go_wp2
      go_meet
      case rel => exact ⟨rr.toNat, by rw [Int.toNat_of_nonneg (by omega)], by omega, rfl⟩
  case rest =>
    obtain ⟨j, rfl, hj, rfl⟩ := hcut
    have kj : (j : Int) < (len0 : Int) + 1 := by omega
    have kj0 : (0 : Int) ≤ (j : Int) := by omega
    obtain ⟨xj, hxj⟩ := (unhide G5).at hj
    have hfz := (unhide G5).own.frozenAt j
    have G6 := hide ((unhide G5).set hj by' (by omega))
    clear hm5 B5 ht ht2 hr'
    go_upto_region 13 with fail
    obtain ⟨Z, hZ⟩ : ∃ Z, wc.setCell ⟨g, j, none⟩ (.int .u8 (by' : Int)) = Z := ⟨_, rfl⟩
    rw [hZ] at G6 ⊢
    have HSm := hide (fun W (h : Below Z.heap.size Z W) => hide (Sum_in _ (l.set j by') W (((unhide G6).below h).row) (by have := (unhide G6).len; omega)))
    have HRm := hide (fun W (h : Below Z.heap.size Z W) => hide (rSum_in _ (l.set j by') W (((unhide G6).below h).row) (by have := (unhide G6).len; omega)))
    have HKm := hide (fun W (h : Below Z.heap.size Z W) => hide (unhide HK W))
    obtain ⟨XX, hXX⟩ : ∃ X, uI (crc (l.set j by')) = X := ⟨_, rfl⟩
    rw [hXX] at HSm HRm
    have BZ := hide (unhide G6).bel
    clear hZ hXX G6 G5 hxj hfz
    refine wp_region_any (by kernel_rfl) ?_
    change wpAny _ _ _ _ _ _ _ (World.drew _)
    refine region_invB 75 (fun j => if j = 14 then 6 else 61 + j) ((0, (.slice a0 len0 cap0)) :: (7, (.slice (some ⟨g, 0, none⟩) (len0 + 1) cap)) :: []) (fun W => Below Z.heap.size Z W) (valsOf [isV (.slice (some ⟨g, 0, none⟩) (len0 + 1) cap), isV (.slice a0 len0 cap0), isV (.int .i64 (len0 : Int)), isV (.slice (some ⟨g, 0, none⟩) len0 cap), isV (.int .u32 XX), isV (.slice (some ⟨g, 0, none⟩) (len0 + 1) cap), isV (.slice a0 len0 cap0), isV (.int .i64 (len0 : Int)), isV (.slice (some ⟨g, 0, none⟩) len0 cap), isV (.int .u32 XX), isV (.bool true), isV (.bool true), isV (.bool true), isV (.bool true), isV (.bool true)]) (GF Z.heap.size) ?fit ?keep ?stable [(11, true)] ?gs ?gv ?steps ?fin _ _ ?sz rfl ?base (Below.refl Z.heap.size Z).drew
    case fit => kernel_rfl
    case keep => intro w1 w2 h1 h2; exact h1.trans h2.1
    case gs => kernel_rfl
    case gv => intro p hp w v hv; simp at hp; subst hp; exact hv
    case sz => rfl
    case base => intro p hp; repeat (first | (rcases List.mem_cons.1 hp with rfl | hp; · rfl) | cases hp)
    case stable =>
      intro j w1 w2 v hJ hv hG
      refine valsOf_stable (J := fun _ => True) (G := GF Z.heap.size) (Stables.all ?_) j w1 w2 v trivial hv hG
      refine Stables.same ?_
      refine Stables.same ?_
      refine Stables.same ?_
      refine Stables.same ?_
      refine Stables.same ?_
      refine Stables.same ?_
      refine Stables.same ?_
      refine Stables.same ?_
      refine Stables.same ?_
      refine Stables.same ?_
      refine Stables.same ?_
      refine Stables.same ?_
      refine Stables.same ?_
      refine Stables.same ?_
      refine Stables.same ?_
      exact Stables.nil
    case steps =>
      refine .cons (by
        intro ρ w hρ hJ hb hd
        have d0 : ρ (.tmp 7) = (.slice (some ⟨g, 0, none⟩) (len0 + 1) cap) := hb (7, _) (List.mem_of_getElem? (i := 1) rfl)
        exact Fsx.mv rfl d0
        ) ?_
      refine .cons (by
        intro ρ w hρ hJ hb hd
        have d0 : ρ (.tmp 0) = (.slice a0 len0 cap0) := hb (0, _) (List.mem_of_getElem? (i := 0) rfl)
        exact Fsx.mv rfl d0
        ) ?_
      refine .cons (by
        intro ρ w hρ hJ hb hd
        have d0 : ρ (.tmp 62) = (.slice a0 len0 cap0) := hd 0 _ rfl rfl
        exact step_val (v := (.int .i64 (len0 : Int))) (w' := w) (by simp [go_sem, execOp, d0]) ⟨GF.refl _ _, rfl⟩
        ) ?_
      refine .cons (by
        intro ρ w hρ hJ hb hd
        have d0 : ρ (.tmp 61) = (.slice (some ⟨g, 0, none⟩) (len0 + 1) cap) := hd 0 _ rfl rfl
        have d1 : ρ (.tmp 63) = (.int .i64 (len0 : Int)) := hd 1 _ rfl rfl
        exact step_val (v := (.slice (some ⟨g, 0, none⟩) len0 cap)) (w' := w) (by simp [go_sem, execOp, d0, d1, hncap]) ⟨GF.refl _ _, rfl⟩
        ) ?_
      refine .cons (by
        intro ρ w hρ hJ hb hd
        have d0 : ρ (.tmp 64) = (.slice (some ⟨g, 0, none⟩) len0 cap) := hd 0 _ rfl rfl
        refine step_func 5 _ _ #[(.slice (some ⟨g, 0, none⟩) len0 cap)] hρ rfl (enters_of Tryz.func5 (by kernel_rfl) rfl) (by simp [d0]) ?_
        refine (unhide (unhide HSm w hJ)).mono ?_
        rintro e W' ⟨rfl, hb2⟩
        exact ⟨_, rfl, GF.of_below hb2 hJ.size, rfl⟩
        ) ?_
      refine .cons (by
        intro ρ w hρ hJ hb hd
        have d0 : ρ (.tmp 7) = (.slice (some ⟨g, 0, none⟩) (len0 + 1) cap) := hb (7, _) (List.mem_of_getElem? (i := 1) rfl)
        exact Fsx.mv rfl d0
        ) ?_
      refine .cons (by
        intro ρ w hρ hJ hb hd
        have d0 : ρ (.tmp 0) = (.slice a0 len0 cap0) := hb (0, _) (List.mem_of_getElem? (i := 0) rfl)
        exact Fsx.mv rfl d0
        ) ?_
      refine .cons (by
        intro ρ w hρ hJ hb hd
        have d0 : ρ (.tmp 67) = (.slice a0 len0 cap0) := hd 0 _ rfl rfl
        exact step_val (v := (.int .i64 (len0 : Int))) (w' := w) (by simp [go_sem, execOp, d0]) ⟨GF.refl _ _, rfl⟩
        ) ?_
      refine .cons (by
        intro ρ w hρ hJ hb hd
        have d0 : ρ (.tmp 66) = (.slice (some ⟨g, 0, none⟩) (len0 + 1) cap) := hd 0 _ rfl rfl
        have d1 : ρ (.tmp 68) = (.int .i64 (len0 : Int)) := hd 1 _ rfl rfl
        exact step_val (v := (.slice (some ⟨g, 0, none⟩) len0 cap)) (w' := w) (by simp [go_sem, execOp, d0, d1, hncap]) ⟨GF.refl _ _, rfl⟩
        ) ?_
      refine .cons (by
        intro ρ w hρ hJ hb hd
        have d0 : ρ (.tmp 69) = (.slice (some ⟨g, 0, none⟩) len0 cap) := hd 0 _ rfl rfl
        refine step_func 6 _ _ #[(.slice (some ⟨g, 0, none⟩) len0 cap)] hρ rfl (enters_of Tryz.func6 (by kernel_rfl) rfl) (by simp [d0]) ?_
        refine (unhide (unhide HRm w hJ)).mono ?_
        rintro e W' ⟨rfl, hb2⟩
        exact ⟨_, rfl, GF.of_below hb2 hJ.size, rfl⟩
        ) ?_
      refine .cons (by
        intro ρ w hρ hJ hb hd
        have d0 : ρ (.tmp 65) = (.int .u32 XX) := hd 0 _ rfl rfl
        have d1 : ρ (.tmp 70) = (.int .u32 XX) := hd 1 _ rfl rfl
        exact step_val (v := (.bool true)) (w' := w) (by simp [go_sem, execOp, d0, d1]) ⟨GF.refl _ _, rfl⟩
        ) ?_
      refine .cons (by
        intro ρ w hρ hJ hb hd
        have d0 : ρ (.tmp 71) = (.bool true) := hd 0 _ rfl rfl
        exact Fsx.mv rfl d0
        ) ?_
      refine .cons (by
        intro ρ w hρ hJ hb hd
        refine step_func 4 _ _ #[] hρ rfl (enters_of Tryz.func4 (by kernel_rfl) rfl) (by simp [hρ.const]) ?_
        refine (unhide (unhide HKm w hJ)).mono ?_
        rintro e W' ⟨rfl, hb2⟩
        exact ⟨_, rfl, GF.of_below hb2 hJ.size, rfl⟩
        ) ?_
      refine .cons (by
        intro ρ w hρ hJ hb hd
        have d0 : ρ (.tmp 72) = (.bool true) := hd 0 _ rfl rfl
        have d1 : ρ (.tmp 73) = (.bool true) := hd 1 _ rfl rfl
        exact Fsx.pk rfl d0 d1
        ) ?_
      refine .cons (by
        intro ρ w hρ hJ hb hd
        have d0 : ρ (.tmp 74) = (.bool true) := hd 0 _ rfl rfl
        exact Fsx.asg rfl d0
        ) ?_
      exact .nil _
    case fin =>
      intro aQ W6 hsz2 hds hb hJ hv
      have e0 : aQ.eval (.tmp 6) = .bool true := hv 14 (by decide)
      have BE := hide (bnext (unhide BZ) hJ)
      obtain ⟨f9, rfl⟩ : ∃ f9 : Nat → Value, aQ = ⟨#[f9 0, f9 1, f9 2, f9 3, f9 4, f9 5, f9 6, f9 7, f9 8, f9 9, f9 10, f9 11, f9 12, f9 13, f9 14, f9 15, f9 16, f9 17, f9 18, f9 19, f9 20, f9 21, f9 22, f9 23, f9 24, f9 25, f9 26, f9 27, f9 28, f9 29, f9 30, f9 31, f9 32, f9 33, f9 34, f9 35, f9 36, f9 37, f9 38, f9 39, f9 40, f9 41, f9 42, f9 43, f9 44, f9 45, f9 46, f9 47, f9 48, f9 49, f9 50, f9 51, f9 52, f9 53, f9 54, f9 55, f9 56, f9 57, f9 58, f9 59, f9 60, f9 61, f9 62, f9 63, f9 64, f9 65, f9 66, f9 67, f9 68, f9 69, f9 70, f9 71, f9 72, f9 73, f9 74], []⟩ := ⟨fun k => aQ.eval (.tmp k), frame_fnF 75 hsz2 hds⟩
      change f9 6 = _ at e0
      rw [e0]
      clear e0 hsz2 hds hb hv hJ
      go_wp2
      go_ret
      exact ⟨rfl, unhide BE⟩

theorem own : ownKnob Tryz.prog.godebug = none := by kernel_rfl
theorem laidOut2 : laidOutB Tryz.prog = true := by kernel_rfl

set_option maxRecDepth 100000 in
theorem lifted (os : Os) (started : os.Started) (H : Type) (enc : TypeId × Value → H) :
    ReturnsInHanded {} Tryz.checked os 3 .any (Rows.frameSumsSpec.pre6 enc Tryz.prog Tryz.f3 Rows.frameSumsRow.domain false) (Rows.frameSumsSpec.post enc Tryz.prog Tryz.f3 false true false false) := by
  refine returnsInHanded_of_change (C := Tryz.checked) own started (by kernel_rfl) Tryz.func3
    (ChangeSpec.witness6 (enc := enc) (C := Tryz.checked) false ⟨#[], #[.slice none 0 0, .int .i64 0, .int .u8 0], []⟩ 8 (by kernel_rfl) (by kernel_rfl) (by kernel_rfl) (by kernel_rfl)) ?_
  intro W base args ds gs before hval0 hW hcnd _
  have hval : ∀ (j : Nat) t v, Tryz.f3.params[j]? = some t → args[j]? = some v → Value.okWide Tryz.prog W .any base t v := hval0
  have hW' := hW
  obtain ⟨p, q, hA0, hV, rfl, hfz, hnd⟩ := hW
  have hA : DataW.TrodAll enc Tryz.prog W 0 (fun _ => true) true Tryz.f3.params.toList args.toList ds p := hA0
  rw [Tryz.params3] at hA hval
  obtain ⟨v0, vs0, d0, ds0, p0, q0, hargs, rfl, rfl, h0, r0⟩ := trodAll_cons hA
  obtain ⟨v1, vs1, d1, ds1, p1, q1, rfl, rfl, rfl, h1, r1⟩ := trodAll_cons r0
  obtain ⟨v2, vs2, d2, ds2, p2, q2, rfl, rfl, rfl, h2, r2⟩ := trodAll_cons r1
  obtain ⟨rfl, rfl, rfl⟩ := trodAll_nil r2
  obtain rfl : args = #[v0, v1, v2] := by cases args; simp_all
  obtain ⟨rfl, rfl⟩ := trodVars_none hV
  obtain ⟨a0, len0, cap0, rfl⟩ := okWide_slice Tryz.underlying22 (hval 0 22 v0 rfl rfl)
  have k0 := h0
  have lt0 : ∀ x ∈ p0, x.block < W.heap.size := by obtain ⟨m, hm⟩ := k0; exact DataW.trod_lt m _ _ _ hm
  obtain ⟨z0, w0⟩ : ∃ l : List Nat, RC W (.slice a0 len0 cap0) l.length (bC l) ∧ l.length = len0 ∧ len0 ≤ maxLen ∧ ∀ e ∈ l, e < 256 := by
    obtain ⟨fuel, hf⟩ := h0
    simp only [Value.cells] at hf
    exact open_bytes hf
  obtain ⟨a1, rfl, rfl, rfl, w1⟩ := open_int Tryz.underlying3 (hval 1 3 v1 rfl rfl) h1
  obtain ⟨a2, rfl, rfl, rfl, w2⟩ := open_int Tryz.underlying5 (hval 2 5 v2 rfl rfl) h2
  clear hA0 hval0
  refine (walk a0 len0 cap0 z0 a1 a2 W w0 w1 w2).mono fun e W' ⟨he, bel⟩ => ?_
  subst he
  exact ⟨_, rfl, _, _, _, [], _, [], hW', trodAll_mk1 (shut_bool Tryz.underlying4 _), (trodAll_cons_mk (Below.trod laidOut2 (by kernel_rfl) (of_decide_eq_true (by kernel_rfl)) k0 bel lt0) (trodAll_cons_mk (shut_int Tryz.underlying3 w1) (trodAll_cons_mk (shut_int Tryz.underlying5 w2) trodAll_mk0))), rfl, bel.frame _, fun h => by cases h⟩

theorem over : Rows.frameSumsRow.holds Tryz.pinned (OpenSpec.ofChange Rows.frameSumsSpec) :=
  OpenClaim.holds_of_wide 3 Tryz.f3 rfl rfl rfl rfl rfl rfl rfl ⟨rfl, rfl, rfl, rfl, rfl⟩ rfl rfl rfl rfl rfl (by kernel_rfl) Tryz.func3 (by kernel_rfl)
    (of_decide_eq_true (by kernel_rfl)) (by unfold Func.isWrapper; first | (rw [if_pos (by decide +kernel)]; kernel_rfl) | (rw [if_neg (by decide +kernel)]; exact ⟨rfl, rfl⟩))
    (fun os started H enc _ => lifted os started H enc)

end LFrameSums

theorem frameSums_holds : Rows.FrameSumsSaid := LFrameSums.over

end Go.Proofs.YtkffonoifbaifaaGreat
