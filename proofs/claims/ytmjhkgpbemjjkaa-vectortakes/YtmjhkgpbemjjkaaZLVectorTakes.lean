/-
  Chapter 7's law VectorTakes returns true for all bytes, and leaves its arguments as they were; no condition.
-/
import Derived.Test.YtmjhkgpbemjjkaaRows
import Derived.WalkKit
import Derived.ProofKit
import Derived.OpenShut
import Derived.ShutString
import Derived.ChangeOld
import Derived.Below
import Derived.Test.YtmjhkgpbemjjkaaZV8
import Derived.Test.YtmjhkgpbemjjkaaZN2
import Derived.Test.YtmjhkgpbemjjkaaZU6
import Derived.Test.YtmjhkgpbemjjkaaZOp
import Derived.Test.YtmjhkgpbemjjkaaZRegG
import Derived.Deep.CutRange
set_option linter.unusedVariables false
set_option linter.unusedSimpArgs false
namespace Go.Proofs.Ytmjhkgpbemjjkaa
namespace LVectorTakes
open Go.ChangeShapes Go.WideShapes Go.ChangeAt Go.RowKit Go.Lib
open Go.ChangeMaps (open_string shut_string)

theorem sl_toB (w : World) (a : Option Addr) (n c k : Nat) (hk : k ≤ c) :
    (Instr.sliceAt 41 (.slice a n c) none (some (.int .i64 (k : Nat))) none).run Try.prog w = .ok (.slice a k c) w := by
  obtain ⟨i0, hi, hz0, hz1, hz2⟩ := info_parts infoB
  have h1 : (k : Int) ≤ (c : Int) := by omega
  simp [Instr.sliceAt, Instr.slice, run_underlying Try.underlying41, sizeOf, typeInfo, hi, hz1, go_sem, h1, hk]
theorem RB.takeN {W : World} {a : Option Addr} {n c k : Nat} {l : List Nat} (h : RC W (.slice a n c) n (bC l)) (hl : l.length = n) (hk : k ≤ n) : RB W (.slice a k c) (l.take k) := by
  have e : (l.take k).length = k := by rw [List.length_take]; omega
  unfold RB
  rw [e]
  rcases h with ⟨h0, _⟩ | ⟨b, off, cap, e1, h1, h2, h3⟩
  · exact .inl ⟨by omega, _, _, by rw [show k = 0 by omega]⟩
  · simp only [Value.slice.injEq] at e1
    obtain ⟨rfl, _, rfl⟩ := e1
    refine .inr ⟨b, off, c, rfl, by omega, h2, fun j x hx => h3 j x ?_⟩
    rw [← bC_take, List.getElem?_take] at hx
    split at hx
    · exact hx
    · cases hx

theorem tkL_len : ∀ (n : Nat) (site : Int) (acc : List (Int × Int)) (st : List Nat × Int), (tkL n site acc st).1.1.length ≤ acc.length + n
  | 0, site, acc, st => by simp [tkL]
  | n + 1, site, acc, st => by
    rw [tkL]
    split
    · simp
    · split
      · simp
      · have := tkL_len n ((tkN st (site + 1) 16).1.1 : Nat) (acc ++ [(((tkN st (site + 1) 16).1.1 : Int), ((tkN (tkN st (site + 1) 16).2 1 2147483647).1.1 : Int))]) (tkN (tkN st (site + 1) 16).2 1 2147483647).2
        rw [List.length_append, List.length_singleton] at this
        omega
theorem takeV_len (st : List Nat × Int) : (takeV st).1.1.length ≤ 16 := by
  unfold takeV
  split
  · simp
  · rename_i h
    have h1 := tkN_ok (st := st) (least := 0) (most := 16) (by simpa using h)
    have h2 := tkL_len (tkN st 0 16).1.1 0 [] (tkN st 0 16).2
    simp only [List.length_nil] at h2
    omega

set_option maxRecDepth 100000 in
set_option maxHeartbeats 20000000 in
theorem walk (a0 : Option Addr) (len0 cap0 : Nat) (z0 : List Nat) (w : World) (w0 : RC w (.slice a0 len0 cap0) z0.length (bC z0) ∧ z0.length = len0 ∧ len0 ≤ maxLen ∧ ∀ e ∈ z0, e < 256) :
    Calls Try.prog 5 #[.slice a0 len0 cap0] w fun e W => e = .returned (.bool true) ∧ Below w.heap.size w W := by
  obtain ⟨r0, e0, _, hby⟩ := w0
  have K := hide (known_in w)
  by_cases h0 : 4000 < len0
  · have h0' : (4000 : Int) < (len0 : Int) := by omega
    clear e0
    go_enter Try.func5, Try.ntmps5
    go_wp2_with (go_at_call 9; refine (unhide K).mono ?_; rintro e W3 ⟨rfl, hb⟩; replace hb := hide hb)
    go_ret
    exact ⟨rfl, unhide hb⟩
  have h0' : ¬ (4000 : Int) < (len0 : Int) := by omega
  have hcap : len0 ≤ cap0 := by
    rcases r0 with ⟨h0, _⟩ | ⟨b, off, cap, e, h1, _⟩
    · omega
    · simp at e; omega
  have E0 := hide e0
  have Hby := hide hby
  have r0' := r0
  rw [e0] at r0'
  have R0 := hide r0'
  obtain ⟨R, hR⟩ : ∃ R, takeV (z0, 0) = R := ⟨_, rfl⟩
  have hlz : z0.length ≤ 4000 := by omega
  have hl0 : len0 ≤ 4000 := by omega
  have hR1x := takeV_len (z0, 0)
  rw [hR] at hR1x
  clear K h0 r0'
  have K := hide (rRead_in w _ z0 r0 hby (by omega))
  clear r0 e0 hby
  go_enter Try.func5, Try.ntmps5
  go_wp2_with fail
  refine (unhide K).mono ?_
  rintro e W1 ⟨p, v1, rfl, rd, hb, hp, _⟩
  have BX := hide hb
  have K2 := hide (Take_in (st := (z0, 0)) rd)
  rw [hR] at K2
  have HR := hide hR
  clear K rd hb hR h0'
  go_wp2_with fail
  refine (unhide K2).mono ?_
  rintro e W2 ⟨vv, rfl, ov, v2, rd, hk, _⟩
  replace BX := hide (hk.below (unhide BX) (fun i hi => by omega))
  obtain ⟨⟨R1, re⟩, rl, rs⟩ := R
  simp only at ov rd ⊢
  simp only at hR1x
  have hR1 : R1.length ≤ 140737488355328 := by omega
  obtain ⟨av, cv, hvv⟩ := ov.form
  obtain ⟨n1, hn1⟩ : ∃ n, R1.length = n := ⟨_, rfl⟩
  rw [hn1] at hvv
  subst hvv
  replace hn1 := hide hn1
  have RV := hide ov.row
  have RD := hide rd
  clear K2 ov rd hk
  have K := hide (refRead_in (.slice a0 len0 cap0) len0 W2 ⟨_, _, rfl⟩)
  go_wp2_with fail
  refine (unhide K).mono ?_
  rintro e W3 ⟨rfl, hb⟩
  replace BX := hide (bnext (unhide BX) hb)
  replace RV := hide ((unhide RV).below hb)
  replace RD := hide ((unhide RD).below hb)
  have K2 := hide (refTake_in a0 len0 cap0 z0 W3 ((unhide R0).below (unhide BX)) (unhide E0) (by omega) (unhide Hby))
  rw [unhide HR] at K2
  clear K hb
  go_wp2_with fail
  refine (unhide K2).mono ?_
  intro e W4 hT
  unfold TkR at hT
  obtain ⟨vw, pq, rfl, hp', hdr, ow, hb⟩ := hT
  replace BX := hide (bnext (unhide BX) hb)
  replace RV := hide ((unhide RV).below hb)
  replace RD := hide ((unhide RD).below hb)
  simp only at hdr ow ⊢
  obtain ⟨aw, cw, hvw⟩ := ow.form
  rw [unhide hn1] at hvw
  subst hvw
  have RW := hide ow.row
  clear K2 ow hb
  have hrl : rl.length = len0 - pq := by rw [hdr, List.length_drop]; have := unhide E0; omega
  obtain ⟨Y, hY⟩ : ∃ Y, W4.alloc (.cells #[.slice a0 len0 cap0, .int .i64 (pq : Nat), .int .i64 rs] 59) = Y := ⟨_, rfl⟩
  have hbY : Below W4.heap.size W4 Y := by rw [← hY]; exact ballc (Below.refl _ _) _
  have YB : Bx Y W4.heap.size 59 #[.slice a0 len0 cap0, .int .i64 (pq : Nat), .int .i64 rs] := by rw [← hY]; exact Bx.new _ _ _
  replace BX := hide (bnext (unhide BX) hbY)
  replace RV := hide ((unhide RV).below hbY)
  replace RW := hide ((unhide RW).below hbY)
  replace RD := hide ((unhide RD).below hbY)
  replace hY := hide hY
  replace hdr := hide hdr
  clear hbY
  go_upto_region 6 with fail
  rw [unhide hY]
  have C0 : ∀ W', Below Y.heap.size Y W' → W'.cell? ⟨W4.heap.size, 0, none⟩ = some (.slice a0 len0 cap0) ∧ W'.cell? ⟨W4.heap.size, 1, none⟩ = some (.int .i64 (pq : Nat)) ∧ W'.cell? ⟨W4.heap.size, 2, none⟩ = some (.int .i64 rs) := fun W' hb => ⟨(YB.below hb).cell 0 _ rfl, (YB.below hb).cell 1 _ rfl, (YB.below hb).cell 2 _ rfl⟩
  replace C0 := hide C0
  have P1 := hide (fun (W' : World) (hb : Below Y.heap.size Y W') => Same_in R1 R1 _ _ W' ((unhide RV).below hb) ((unhide RW).below hb) hR1 hR1)
  have P2 := hide (fun (W' : World) (hb : Below Y.heap.size Y W') => rLeft_in ((unhide RD).below hb))
  have P3 := hide (fun (W' : World) => refLeft_in a0 len0 cap0 pq rs W' hp' (by omega))
  have P4 := hide (fun (W' : World) (hb : Below Y.heap.size Y W') => rErr_in ((unhide RD).below hb))
  rw [hrl] at P2
  obtain ⟨lf, hlf⟩ : ∃ x, len0 - pq = x := ⟨_, rfl⟩
  rw [hlf] at P2 P3 hrl
  replace hlf := hide hlf
  clear hY YB
  go_cut [52] from 30 to 52 (fun v wx => v = .bool false ∧ Hid (RI wx (.slice av n1 cv) R1) ∧ Hid (Rd wx p v2 rl rs) ∧ Hid (Below w.heap.size w wx))
  case first =>
    refine wp_region_any (by kernel_rfl) ?_
    change wpAny _ _ _ _ _ _ _ (World.drew _)
    refine region_invG 85 (fun j => 30 + j) ((0, (Value.slice a0 len0 cap0)) :: (1, undef) :: (2, (Value.bool false)) :: (3, (Value.pointer (some { block := p, off := 0 }))) :: (4, (Value.slice av n1 cv)) :: (5, (Value.int IntKind.i64 re)) :: (6, (Value.slice aw n1 cw)) :: (7, (Value.pointer (some { block := W4.heap.size, off := 0 }))) :: (8, (Value.int IntKind.i64 re)) :: (9, undef) :: (10, undef) :: (11, undef) :: (12, (Value.slice a0 len0 cap0)) :: (13, (Value.int IntKind.i64 (len0 : Int))) :: (14, (Value.bool false)) :: (15, undef) :: (16, (Value.slice a0 len0 cap0)) :: (17, (Value.pointer (some { block := p, off := 0 }))) :: (18, (Value.tuple #[Value.slice av n1 cv, Value.int IntKind.i64 re])) :: (19, (Value.pointer (some { block := p, off := 0 }))) :: (20, (Value.tuple #[Value.slice av n1 cv, Value.int IntKind.i64 re])) :: (21, (Value.slice av n1 cv)) :: (22, (Value.int IntKind.i64 re)) :: (23, (Value.tuple #[Value.slice aw n1 cw, Value.agg #[Value.slice a0 len0 cap0, Value.int IntKind.i64 (pq : Int), Value.int IntKind.i64 rs], Value.int IntKind.i64 re])) :: (24, (Value.slice a0 len0 cap0)) :: (25, (Value.agg #[Value.slice a0 len0 cap0, Value.int IntKind.i64 0, Value.int IntKind.i64 0])) :: (26, (Value.tuple #[Value.slice aw n1 cw, Value.agg #[Value.slice a0 len0 cap0, Value.int IntKind.i64 (pq : Int), Value.int IntKind.i64 rs], Value.int IntKind.i64 re])) :: (27, (Value.slice aw n1 cw)) :: (28, (Value.agg #[Value.slice a0 len0 cap0, Value.int IntKind.i64 (pq : Int), Value.int IntKind.i64 rs])) :: (29, (Value.int IntKind.i64 re)) :: (53, undef) :: (54, undef) :: (55, undef) :: (56, undef) :: (57, undef) :: (58, undef) :: (59, undef) :: (60, undef) :: (61, undef) :: (62, undef) :: (63, undef) :: (64, undef) :: (65, undef) :: (66, undef) :: (67, undef) :: (68, undef) :: (69, undef) :: (70, undef) :: (71, undef) :: (72, undef) :: (73, undef) :: (74, undef) :: (75, undef) :: (76, undef) :: (77, undef) :: (78, undef) :: (79, undef) :: (80, undef) :: (81, undef) :: (82, undef) :: (83, undef) :: (84, undef) :: [])
      (fun W => Below Y.heap.size Y W)
      (valsOf [isV (Value.int IntKind.i64 re), isV (Value.int IntKind.i64 re), isV (.bool false), isV (.bool false), isV (Value.slice av n1 cv), isV (Value.slice aw n1 cw), isV (.bool true), isV (.bool false), isV (.bool false), isV (.bool false), isV (Value.pointer (some { block := p, off := 0 })), isV (.int .i64 (lf : Nat)), isV (.agg #[.slice a0 len0 cap0, .int .i64 (pq : Nat), .int .i64 rs]), isV (.int .i64 (lf : Nat)), isV (.bool false), isV (.bool false), isV (.bool false), isV (Value.pointer (some { block := p, off := 0 })), isV (.int .i64 rs), isV (.pointer (some ⟨W4.heap.size, 2, none⟩)), isV (.int .i64 rs), isV (.bool false), isV (.bool false)])
      (fun w w' => Below w.heap.size w w') ?fit (fun w1 w2 h hG => h.trans (hG.mono h.size)) (valsOf_stable ?stable) (fun _ => true) [(3, false), (9, false), (16, false)] ?gs ?gv ?steps ?fin _ _ ?sz rfl ?base ?start
    case fit => kernel_rfl
    case sz => rfl
    case gs => kernel_rfl
    case gv => intro p hp w v hv; simp only [List.mem_cons, List.not_mem_nil, or_false] at hp; rcases hp with rfl | rfl | rfl <;> exact hv
    case base => intro p hp; repeat (first | (rcases List.mem_cons.1 hp with rfl | hp; · rfl) | cases hp)
    case stable => exact Stables.all (by repeat (first | exact .nil | refine .same ?_))
    case start => exact (Below.refl _ _).drew
    case steps =>
      refine .cons (fun ρ wz hρ hJ hb hd => by
        refine Eq.mpr (if_neg (by decide)) ?_
        have dd0 : ρ (.tmp 5) = (Value.int IntKind.i64 re) := hb (5, _) (List.mem_of_getElem? (i := 5) rfl)
        exact step_move (.tmp 5) rfl ⟨Below.refl _ _, dd0⟩) ?_
      refine .cons (fun ρ wz hρ hJ hb hd => by
        refine Eq.mpr (if_neg (by decide)) ?_
        have dd0 : ρ (.tmp 8) = (Value.int IntKind.i64 re) := hb (8, _) (List.mem_of_getElem? (i := 8) rfl)
        exact step_move (.tmp 8) rfl ⟨Below.refl _ _, dd0⟩) ?_
      refine .cons (fun ρ wz hρ hJ hb hd => by
        refine Eq.mpr (if_neg (by decide)) ?_
        have dd0 : ρ (.tmp 30) = (Value.int IntKind.i64 re) := hd 0 _ rfl rfl
        have dd1 : ρ (.tmp 31) = (Value.int IntKind.i64 re) := hd 1 _ rfl rfl
        exact step_val (v := (.bool false)) (w' := wz) (by simp [go_sem, execOp, dd0, dd1, hρ.const]) ⟨Below.refl _ _, rfl⟩) ?_
      refine .cons (fun ρ wz hρ hJ hb hd => by
        refine Eq.mpr (if_neg (by decide)) ?_
        have dd0 : ρ (.tmp 32) = (.bool false) := hd 0 _ rfl rfl
        exact step_move (.tmp 32) rfl ⟨Below.refl _ _, dd0⟩) ?_
      refine .cons (fun ρ wz hρ hJ hb hd => by
        refine Eq.mpr (if_neg (by decide)) ?_
        have dd0 : ρ (.tmp 4) = (Value.slice av n1 cv) := hb (4, _) (List.mem_of_getElem? (i := 4) rfl)
        exact step_move (.tmp 4) rfl ⟨Below.refl _ _, dd0⟩) ?_
      refine .cons (fun ρ wz hρ hJ hb hd => by
        refine Eq.mpr (if_neg (by decide)) ?_
        have dd0 : ρ (.tmp 6) = (Value.slice aw n1 cw) := hb (6, _) (List.mem_of_getElem? (i := 6) rfl)
        exact step_move (.tmp 6) rfl ⟨Below.refl _ _, dd0⟩) ?_
      refine .cons (fun ρ wz hρ hJ hb hd => by
        refine Eq.mpr (if_neg (by decide)) ?_
        have dd0 : ρ (.tmp 34) = (Value.slice av n1 cv) := hd 0 _ rfl rfl
        have dd1 : ρ (.tmp 35) = (Value.slice aw n1 cw) := hd 1 _ rfl rfl
        refine step_func 21 _ _ #[Value.slice av n1 cv, Value.slice aw n1 cw] hρ rfl (enters_of Try.func21 (by kernel_rfl) rfl) (by simp [dd0, dd1]) ?_
        refine (unhide P1 wz hJ).mono ?_
        rintro r W' ⟨rfl, kk, rfl⟩
        exact ⟨_, rfl, bdrew (Below.refl _ _) kk, by show _ = _; simp⟩) ?_
      refine .cons (fun ρ wz hρ hJ hb hd => by
        refine Eq.mpr (if_neg (by decide)) ?_
        have dd0 : ρ (.tmp 36) = (.bool true) := hd 0 _ rfl rfl
        exact step_val (v := (.bool false)) (w' := wz) (by simp [go_sem, execOp, dd0, hρ.const]) ⟨Below.refl _ _, rfl⟩) ?_
      refine .cons (fun ρ wz hρ hJ hb hd => by
        refine Eq.mpr (if_neg (by decide)) ?_
        have dd0 : ρ (.tmp 33) = (.bool false) := hd 0 _ rfl rfl
        have dd1 : ρ (.tmp 37) = (.bool false) := hd 1 _ rfl rfl
        exact step_val (v := (.bool false)) (w' := wz) (by simp [go_sem, execOp, dd0, dd1, hρ.const]) ⟨Below.refl _ _, rfl⟩) ?_
      refine .cons (fun ρ wz hρ hJ hb hd => by
        refine Eq.mpr (if_neg (by decide)) ?_
        have dd0 : ρ (.tmp 38) = (.bool false) := hd 0 _ rfl rfl
        exact step_move (.tmp 38) rfl ⟨Below.refl _ _, dd0⟩) ?_
      refine .cons (fun ρ wz hρ hJ hb hd => by
        refine Eq.mpr (if_neg (by decide)) ?_
        have dd0 : ρ (.tmp 3) = (Value.pointer (some { block := p, off := 0 })) := hb (3, _) (List.mem_of_getElem? (i := 3) rfl)
        exact step_move (.tmp 3) rfl ⟨Below.refl _ _, dd0⟩) ?_
      refine .cons (fun ρ wz hρ hJ hb hd => by
        refine Eq.mpr (if_neg (by decide)) ?_
        have dd0 : ρ (.tmp 40) = (Value.pointer (some { block := p, off := 0 })) := hd 0 _ rfl rfl
        refine step_func 42 _ _ #[.pointer (some ⟨p, 0, none⟩)] hρ rfl (enters_of Try.func42 (by kernel_rfl) rfl) (by simp [dd0]) ?_
        refine (unhide P2 wz hJ).mono ?_
        rintro r W' ⟨rfl, rfl⟩
        exact ⟨_, rfl, Below.refl _ _, rfl⟩) ?_
      refine .cons (fun ρ wz hρ hJ hb hd => by
        refine Eq.mpr (if_neg (by decide)) ?_
        have dd0 : ρ (.tmp 7) = (Value.pointer (some { block := W4.heap.size, off := 0 })) := hb (7, _) (List.mem_of_getElem? (i := 7) rfl)
        obtain ⟨u0, u1, u2⟩ := unhide C0 wz hJ
        exact step_val (v := (.agg #[.slice a0 len0 cap0, .int .i64 (pq : Nat), .int .i64 rs])) (w' := wz) (by simp [go_sem, execOp, dd0, u0, u1, u2]) ⟨Below.refl _ _, rfl⟩) ?_
      refine .cons (fun ρ wz hρ hJ hb hd => by
        refine Eq.mpr (if_neg (by decide)) ?_
        have dd0 : ρ (.tmp 42) = (.agg #[.slice a0 len0 cap0, .int .i64 (pq : Nat), .int .i64 rs]) := hd 0 _ rfl rfl
        refine step_func 43 _ _ #[.agg #[.slice a0 len0 cap0, .int .i64 (pq : Nat), .int .i64 rs]] hρ rfl (enters_of Try.func43 (by kernel_rfl) rfl) (by simp [dd0]) ?_
        refine (unhide P3 wz).mono ?_
        rintro r W' ⟨rfl, hb2⟩
        exact ⟨_, rfl, hb2, rfl⟩) ?_
      refine .cons (fun ρ wz hρ hJ hb hd => by
        refine Eq.mpr (if_neg (by decide)) ?_
        have dd0 : ρ (.tmp 41) = (.int .i64 (lf : Nat)) := hd 0 _ rfl rfl
        have dd1 : ρ (.tmp 43) = (.int .i64 (lf : Nat)) := hd 1 _ rfl rfl
        exact step_val (v := (.bool false)) (w' := wz) (by simp [go_sem, execOp, dd0, dd1, hρ.const]) ⟨Below.refl _ _, rfl⟩) ?_
      refine .cons (fun ρ wz hρ hJ hb hd => by
        refine Eq.mpr (if_neg (by decide)) ?_
        have dd0 : ρ (.tmp 39) = (.bool false) := hd 0 _ rfl rfl
        have dd1 : ρ (.tmp 44) = (.bool false) := hd 1 _ rfl rfl
        exact step_val (v := (.bool false)) (w' := wz) (by simp [go_sem, execOp, dd0, dd1, hρ.const]) ⟨Below.refl _ _, rfl⟩) ?_
      refine .cons (fun ρ wz hρ hJ hb hd => by
        refine Eq.mpr (if_neg (by decide)) ?_
        have dd0 : ρ (.tmp 45) = (.bool false) := hd 0 _ rfl rfl
        exact step_move (.tmp 45) rfl ⟨Below.refl _ _, dd0⟩) ?_
      refine .cons (fun ρ wz hρ hJ hb hd => by
        refine Eq.mpr (if_neg (by decide)) ?_
        have dd0 : ρ (.tmp 3) = (Value.pointer (some { block := p, off := 0 })) := hb (3, _) (List.mem_of_getElem? (i := 3) rfl)
        exact step_move (.tmp 3) rfl ⟨Below.refl _ _, dd0⟩) ?_
      refine .cons (fun ρ wz hρ hJ hb hd => by
        refine Eq.mpr (if_neg (by decide)) ?_
        have dd0 : ρ (.tmp 47) = (Value.pointer (some { block := p, off := 0 })) := hd 0 _ rfl rfl
        refine step_func 44 _ _ #[.pointer (some ⟨p, 0, none⟩)] hρ rfl (enters_of Try.func44 (by kernel_rfl) rfl) (by simp [dd0]) ?_
        refine (unhide P4 wz hJ).mono ?_
        rintro r W' ⟨rfl, rfl⟩
        exact ⟨_, rfl, Below.refl _ _, rfl⟩) ?_
      refine .cons (fun ρ wz hρ hJ hb hd => by
        refine Eq.mpr (if_neg (by decide)) ?_
        have dd0 : ρ (.tmp 7) = (Value.pointer (some { block := W4.heap.size, off := 0 })) := hb (7, _) (List.mem_of_getElem? (i := 7) rfl)
        exact step_val (v := (.pointer (some ⟨W4.heap.size, 2, none⟩))) (w' := wz) (by simp [go_sem, execOp, dd0, hρ.const]) ⟨Below.refl _ _, rfl⟩) ?_
      refine .cons (fun ρ wz hρ hJ hb hd => by
        refine Eq.mpr (if_neg (by decide)) ?_
        have dd0 : ρ (.tmp 49) = (.pointer (some ⟨W4.heap.size, 2, none⟩)) := hd 0 _ rfl rfl
        obtain ⟨u0, u1, u2⟩ := unhide C0 wz hJ
        exact step_val (v := (.int .i64 rs)) (w' := wz) (by simp [go_sem, execOp, dd0, u0, u1, u2]) ⟨Below.refl _ _, rfl⟩) ?_
      refine .cons (fun ρ wz hρ hJ hb hd => by
        refine Eq.mpr (if_neg (by decide)) ?_
        have dd0 : ρ (.tmp 48) = (.int .i64 rs) := hd 0 _ rfl rfl
        have dd1 : ρ (.tmp 50) = (.int .i64 rs) := hd 1 _ rfl rfl
        exact step_val (v := (.bool false)) (w' := wz) (by simp [go_sem, execOp, dd0, dd1, hρ.const]) ⟨Below.refl _ _, rfl⟩) ?_
      refine .cons (fun ρ wz hρ hJ hb hd => by
        refine Eq.mpr (if_neg (by decide)) ?_
        have dd0 : ρ (.tmp 46) = (.bool false) := hd 0 _ rfl rfl
        have dd1 : ρ (.tmp 51) = (.bool false) := hd 1 _ rfl rfl
        exact step_val (v := (.bool false)) (w' := wz) (by simp [go_sem, execOp, dd0, dd1, hρ.const]) ⟨Below.refl _ _, rfl⟩) (.nil _)
    case fin =>
      intro aQ WQ hsz2 hds hb hJ hv
      obtain rfl := frame_of (((0, (Value.slice a0 len0 cap0)) :: (1, undef) :: (2, (Value.bool false)) :: (3, (Value.pointer (some { block := p, off := 0 }))) :: (4, (Value.slice av n1 cv)) :: (5, (Value.int IntKind.i64 re)) :: (6, (Value.slice aw n1 cw)) :: (7, (Value.pointer (some { block := W4.heap.size, off := 0 }))) :: (8, (Value.int IntKind.i64 re)) :: (9, undef) :: (10, undef) :: (11, undef) :: (12, (Value.slice a0 len0 cap0)) :: (13, (Value.int IntKind.i64 (len0 : Int))) :: (14, (Value.bool false)) :: (15, undef) :: (16, (Value.slice a0 len0 cap0)) :: (17, (Value.pointer (some { block := p, off := 0 }))) :: (18, (Value.tuple #[Value.slice av n1 cv, Value.int IntKind.i64 re])) :: (19, (Value.pointer (some { block := p, off := 0 }))) :: (20, (Value.tuple #[Value.slice av n1 cv, Value.int IntKind.i64 re])) :: (21, (Value.slice av n1 cv)) :: (22, (Value.int IntKind.i64 re)) :: (23, (Value.tuple #[Value.slice aw n1 cw, Value.agg #[Value.slice a0 len0 cap0, Value.int IntKind.i64 (pq : Int), Value.int IntKind.i64 rs], Value.int IntKind.i64 re])) :: (24, (Value.slice a0 len0 cap0)) :: (25, (Value.agg #[Value.slice a0 len0 cap0, Value.int IntKind.i64 0, Value.int IntKind.i64 0])) :: (26, (Value.tuple #[Value.slice aw n1 cw, Value.agg #[Value.slice a0 len0 cap0, Value.int IntKind.i64 (pq : Int), Value.int IntKind.i64 rs], Value.int IntKind.i64 re])) :: (27, (Value.slice aw n1 cw)) :: (28, (Value.agg #[Value.slice a0 len0 cap0, Value.int IntKind.i64 (pq : Int), Value.int IntKind.i64 rs])) :: (29, (Value.int IntKind.i64 re)) :: (53, undef) :: (54, undef) :: (55, undef) :: (56, undef) :: (57, undef) :: (58, undef) :: (59, undef) :: (60, undef) :: (61, undef) :: (62, undef) :: (63, undef) :: (64, undef) :: (65, undef) :: (66, undef) :: (67, undef) :: (68, undef) :: (69, undef) :: (70, undef) :: (71, undef) :: (72, undef) :: (73, undef) :: (74, undef) :: (75, undef) :: (76, undef) :: (77, undef) :: (78, undef) :: (79, undef) :: (80, undef) :: (81, undef) :: (82, undef) :: (83, undef) :: (84, undef) :: []) ++ ((30, (Value.int IntKind.i64 re)) :: (31, (Value.int IntKind.i64 re)) :: (32, (.bool false)) :: (33, (.bool false)) :: (34, (Value.slice av n1 cv)) :: (35, (Value.slice aw n1 cw)) :: (36, (.bool true)) :: (37, (.bool false)) :: (38, (.bool false)) :: (39, (.bool false)) :: (40, (Value.pointer (some { block := p, off := 0 }))) :: (41, (.int .i64 (lf : Nat))) :: (42, (.agg #[.slice a0 len0 cap0, .int .i64 (pq : Nat), .int .i64 rs])) :: (43, (.int .i64 (lf : Nat))) :: (44, (.bool false)) :: (45, (.bool false)) :: (46, (.bool false)) :: (47, (Value.pointer (some { block := p, off := 0 }))) :: (48, (.int .i64 rs)) :: (49, (.pointer (some ⟨W4.heap.size, 2, none⟩))) :: (50, (.int .i64 rs)) :: (51, (.bool false)) :: (52, (.bool false)) :: [])) ((Value.slice a0 len0 cap0) :: undef :: (Value.bool false) :: (Value.pointer (some { block := p, off := 0 })) :: (Value.slice av n1 cv) :: (Value.int IntKind.i64 re) :: (Value.slice aw n1 cw) :: (Value.pointer (some { block := W4.heap.size, off := 0 })) :: (Value.int IntKind.i64 re) :: undef :: undef :: undef :: (Value.slice a0 len0 cap0) :: (Value.int IntKind.i64 (len0 : Int)) :: (Value.bool false) :: undef :: (Value.slice a0 len0 cap0) :: (Value.pointer (some { block := p, off := 0 })) :: (Value.tuple #[Value.slice av n1 cv, Value.int IntKind.i64 re]) :: (Value.pointer (some { block := p, off := 0 })) :: (Value.tuple #[Value.slice av n1 cv, Value.int IntKind.i64 re]) :: (Value.slice av n1 cv) :: (Value.int IntKind.i64 re) :: (Value.tuple #[Value.slice aw n1 cw, Value.agg #[Value.slice a0 len0 cap0, Value.int IntKind.i64 (pq : Int), Value.int IntKind.i64 rs], Value.int IntKind.i64 re]) :: (Value.slice a0 len0 cap0) :: (Value.agg #[Value.slice a0 len0 cap0, Value.int IntKind.i64 0, Value.int IntKind.i64 0]) :: (Value.tuple #[Value.slice aw n1 cw, Value.agg #[Value.slice a0 len0 cap0, Value.int IntKind.i64 (pq : Int), Value.int IntKind.i64 rs], Value.int IntKind.i64 re]) :: (Value.slice aw n1 cw) :: (Value.agg #[Value.slice a0 len0 cap0, Value.int IntKind.i64 (pq : Int), Value.int IntKind.i64 rs]) :: (Value.int IntKind.i64 re) :: (Value.int IntKind.i64 re) :: (Value.int IntKind.i64 re) :: (.bool false) :: (.bool false) :: (Value.slice av n1 cv) :: (Value.slice aw n1 cw) :: (.bool true) :: (.bool false) :: (.bool false) :: (.bool false) :: (Value.pointer (some { block := p, off := 0 })) :: (.int .i64 (lf : Nat)) :: (.agg #[.slice a0 len0 cap0, .int .i64 (pq : Nat), .int .i64 rs]) :: (.int .i64 (lf : Nat)) :: (.bool false) :: (.bool false) :: (.bool false) :: (Value.pointer (some { block := p, off := 0 })) :: (.int .i64 rs) :: (.pointer (some ⟨W4.heap.size, 2, none⟩)) :: (.int .i64 rs) :: (.bool false) :: (.bool false) :: undef :: undef :: undef :: undef :: undef :: undef :: undef :: undef :: undef :: undef :: undef :: undef :: undef :: undef :: undef :: undef :: undef :: undef :: undef :: undef :: undef :: undef :: undef :: undef :: undef :: undef :: undef :: undef :: undef :: undef :: undef :: undef :: []) hsz2 hds (fun p hp => by
        rcases List.mem_append.1 hp with h | h
        · exact hb p h
        · simp only [List.mem_cons, List.not_mem_nil, or_false] at h
          rcases h with rfl | rfl | rfl | rfl | rfl | rfl | rfl | rfl | rfl | rfl | rfl | rfl | rfl | rfl | rfl | rfl | rfl | rfl | rfl | rfl | rfl | rfl | rfl
          · exact hv 0 (by decide)
          · exact hv 1 (by decide)
          · exact hv 2 (by decide)
          · exact hv 3 (by decide)
          · exact hv 4 (by decide)
          · exact hv 5 (by decide)
          · exact hv 6 (by decide)
          · exact hv 7 (by decide)
          · exact hv 8 (by decide)
          · exact hv 9 (by decide)
          · exact hv 10 (by decide)
          · exact hv 11 (by decide)
          · exact hv 12 (by decide)
          · exact hv 13 (by decide)
          · exact hv 14 (by decide)
          · exact hv 15 (by decide)
          · exact hv 16 (by decide)
          · exact hv 17 (by decide)
          · exact hv 18 (by decide)
          · exact hv 19 (by decide)
          · exact hv 20 (by decide)
          · exact hv 21 (by decide)
          · exact hv 22 (by decide)) rfl
      clear hb hds hsz2 hv
      go_wp2
      go_meet
      case rel => exact ⟨rfl, hide ((unhide RV).below hJ), hide ((unhide RD).below hJ), hide (bnext (unhide BX) hJ)⟩
  case rest =>
    clear RV RW RD BX C0 P1 P2 P3 P4
    obtain ⟨rfl, RV, RD, BX⟩ := hcut
    have K := hide (Take_nil wc)
    go_wp2_with fail
    refine (unhide K).mono ?_
    rintro e W5 ⟨rfl, rfl⟩
    clear K
    by_cases he : re = 0
    · subst he
      obtain ⟨f1, f2, f3⟩ := takeV_form (unhide Hby) (unhide HR)
      subst f2
      have f4 : chk R1 = 0 := by rw [← f3]; exact chk_vec (sy_good R1)
      have HRn := hide (show ∀ x ∈ R1, 0 ≤ x.1 ∧ 0 ≤ x.2 from fun x hx => by rw [← f3] at hx; have := vec_in (sy_good R1) hx; omega)
      have hR17 : R1.length ≤ 17 := by rw [← f3]; exact vec_len _
      obtain ⟨LB, hLB⟩ : ∃ L, num R1.length ++ pb R1 = L := ⟨_, rfl⟩
      rw [hLB] at f1
      have hlb : LB.length = len0 - lf := by have := unhide E0; rw [f1, List.length_append] at this; omega
      have hlb2 : LB = z0.take (len0 - lf) := by rw [← hlb, f1]; simp
      have hlbn : LB.length ≤ 5000 := by omega
      have q1 : putV ([], 0) R1 = (LB, 0) := by rw [putV_pb R1 _ (unhide HRn)]; simp [hLB]
      obtain ⟨Z, hZ⟩ : ∃ Z, wc.alloc (.cells #[.slice none 0 0, .int .i64 0] 43) = Z := ⟨_, rfl⟩
      have bZ : Below wc.heap.size wc Z := by rw [← hZ]; exact ballc (Below.refl _ _) _
      have HW : Wr Z wc.heap.size (.slice none 0 0) [] 0 := by rw [← hZ]; exact Wr.new wc
      have K := hide (Put_in R1 HW ((unhide RV).below bZ) hR1 (by simp))
      rw [f3, q1] at K
      simp only at K
      replace hlb2 := hide hlb2
      replace hlb := hide hlb
      replace f1 := hide f1
      replace f3 := hide f3
      have BZ := hide bZ
      clear hLB q1 HW bZ
      go_wp2_with fail
      refine (unhide K).mono ?_
      rintro e W6 ⟨rfl, v6, hw, hk, _⟩
      have b6 : Below wc.heap.size wc W6 := hk.below (unhide BZ) (fun i hi => by rcases hi with rfl | hi; exact Nat.le_refl _; cases hi)
      replace RV := hide ((unhide RV).below b6)
      replace RD := hide ((unhide RD).below b6)
      replace BX := hide (bnext (unhide BX) b6)
      have HW := hide hw
      have K2 := hide (Check_in _ R1 W6 (unhide RV) hR1)
      rw [f4] at K2
      clear K hk hw b6 hZ BZ
      go_wp2_with fail
      refine (unhide K2).mono ?_
      rintro e W7 ⟨rfl, hb⟩
      replace RD := hide ((unhide RD).below hb)
      replace BX := hide (bnext (unhide BX) hb)
      replace HW := hide ((unhide HW).below hb)
      have K := hide (wData_in (unhide HW) (by omega))
      clear K2 hb
      go_wp2_with fail
      refine (unhide K).mono ?_
      rintro e W8 ⟨v8, rfl, o8, hb⟩
      replace RD := hide ((unhide RD).below hb)
      replace BX := hide (bnext (unhide BX) hb)
      obtain ⟨a8, c8, hv8⟩ := owns_form o8
      generalize LB.length = n8 at hv8
      subst hv8
      have RB8 := hide (RC.of_owns o8)
      have K2 := hide (rLeft_in (unhide RD))
      rw [hrl] at K2
      clear K hb o8
      have hlf2 : lf ≤ len0 := by have := unhide hlf; omega
      have hs := fun W => sl_toB W a0 len0 cap0 (len0 - lf) (by omega)
      have es : ((len0 - lf : Nat) : Int) = (len0 : Int) - (lf : Int) := by omega
      rw [es] at hs
      have hw1 : wrap64 ((len0 : Int) - (lf : Int)) = (len0 : Int) - (lf : Int) := IntWalk.wrap64_in _ (by omega)
      have RT := RB.takeN (k := len0 - lf) ((unhide R0).below (unhide BX)) (unhide E0) (by omega)
      rw [← unhide hlb2] at RT
      have K3 := hide (bytes_in LB LB _ _ W8 (unhide RB8) RT (by omega) (by omega))
      rw [show decide (LB = LB) = true by simp] at K3
      clear es RT
      go_wp2_with fail
      refine (unhide K2).mono ?_
      rintro e W9 ⟨rfl, rfl⟩
      go_wp2_with fail
      refine (unhide K3).mono ?_
      rintro e W10 ⟨rfl, kk, hkk⟩
      have B10 := hide (show Below w.heap.size w W10 by rw [hkk]; exact bdrew (unhide BX) kk)
      have K := hide (known_in W10)
      clear K2 K3 hkk hs hw1
      go_wp2_with fail
      refine (unhide K).mono ?_
      rintro e W11 ⟨rfl, hb⟩
      replace B10 := hide (bnext (unhide B10) hb)
      clear K hb
      go_wp2
      go_ret
      exact ⟨rfl, unhide B10⟩
    · have he' : (re == 0) = false := by simpa using he
      have K := hide (known_in wc)
      go_wp2_with fail
      refine (unhide K).mono ?_
      rintro e W6 ⟨rfl, hb⟩
      replace BX := hide (bnext (unhide BX) hb)
      clear K hb
      go_wp2
      go_ret
      exact ⟨rfl, unhide BX⟩

theorem own : ownKnob Try.prog.godebug = none := by kernel_rfl
theorem laidOut2 : laidOutB Try.prog = true := by kernel_rfl

set_option maxRecDepth 100000 in
theorem lifted (os : Os) (started : os.Started) (H : Type) (enc : TypeId × Value → H) :
    ReturnsInHanded {} Try.checked os 5 .any (Rows.vectorTakesSpec.pre6 enc Try.prog Try.f5 Rows.vectorTakesRow.domain false) (Rows.vectorTakesSpec.post enc Try.prog Try.f5 false true false false) := by
  refine returnsInHanded_of_change (C := Try.checked) own started (by kernel_rfl) Try.func5
    (ChangeSpec.witness6 (enc := enc) (C := Try.checked) false ⟨#[], #[.slice none 0 0], []⟩ 8 (by kernel_rfl) (by kernel_rfl) (by kernel_rfl) (by kernel_rfl)) ?_
  intro W base args ds gs before hval0 hW hcnd _
  have hval : ∀ (j : Nat) t v, Try.f5.params[j]? = some t → args[j]? = some v → Value.okWide Try.prog W .any base t v := hval0
  have hW' := hW
  obtain ⟨p, q, hA0, hV, rfl, hfz, hnd⟩ := hW
  have hA : DataW.TrodAll enc Try.prog W 0 (fun _ => true) true Try.f5.params.toList args.toList ds p := hA0
  rw [Try.params5] at hA hval
  obtain ⟨v0, vs0, d0, ds0, p0, q0, hargs, rfl, rfl, h0, r0⟩ := trodAll_cons hA
  obtain ⟨rfl, rfl, rfl⟩ := trodAll_nil r0
  obtain rfl : args = #[v0] := by cases args; simp_all
  obtain ⟨rfl, rfl⟩ := trodVars_none hV
  obtain ⟨a0, len0, cap0, rfl⟩ := okWide_slice Try.underlying41 (hval 0 41 v0 rfl rfl)
  have k0 := h0
  have lt0 : ∀ x ∈ p0, x.block < W.heap.size := by obtain ⟨m, hm⟩ := k0; exact DataW.trod_lt m _ _ _ hm
  obtain ⟨z0, w0⟩ : ∃ l : List Nat, RC W (.slice a0 len0 cap0) l.length (bC l) ∧ l.length = len0 ∧ len0 ≤ maxLen ∧ ∀ e ∈ l, e < 256 := by
    obtain ⟨fuel, hf⟩ := h0
    simp only [Value.cells] at hf
    exact open_bytes hf
  clear hA0 hval0
  refine (walk a0 len0 cap0 z0 W w0).mono fun e W' ⟨he, bel⟩ => ?_
  subst he
  exact ⟨_, rfl, _, _, _, [], _, [], hW', trodAll_mk1 (shut_bool Try.underlying4 _), (trodAll_cons_mk (Below.trod laidOut2 (by kernel_rfl) (of_decide_eq_true (by kernel_rfl)) k0 bel lt0) trodAll_mk0), rfl, bel.frame _, fun h => by cases h⟩

theorem over : Rows.vectorTakesRow.holds Try.pinned (OpenSpec.ofChange Rows.vectorTakesSpec) :=
  OpenClaim.holds_of_wide 5 Try.f5 rfl rfl rfl rfl rfl rfl rfl ⟨rfl, rfl, rfl, rfl, rfl⟩ rfl rfl rfl rfl rfl (by kernel_rfl) Try.func5 (by kernel_rfl)
    (of_decide_eq_true (by kernel_rfl)) (by unfold Func.isWrapper; first | (rw [if_pos (by decide +kernel)]; kernel_rfl) | (rw [if_neg (by decide +kernel)]; exact ⟨rfl, rfl⟩))
    (fun os started H enc _ => lifted os started H enc)

end LVectorTakes

theorem vectorTakes_holds : Rows.VectorTakesSaid := LVectorTakes.over

end Go.Proofs.Ytmjhkgpbemjjkaa
