/-
  The place of a number of a unit.
-/
import Derived.Test.YtiakhpfljjfaeaaZXMap
set_option linter.unusedSimpArgs false
set_option linter.unusedVariables false
namespace Go.Proofs.Ytiakhpfljjfaeaa
open Go.RowKit Go.Lib

/-- a known unit's function, at all places -/
theorem num_all (s : ByteArray) (u : Int) (hu : 1 ≤ u ∧ u ≤ 4) : ∃ f : Nat, numV u = .func (.func f) #[] #[] ∧ (∀ args w, (callFunc f args).run Try.prog w = .ok (.enter f args) w) ∧
    (∀ (n : Nat) (w : World), Calls Try.prog f #[spN s n] w fun e w' => e = .returned (.int .i64 (pQ s u n : Nat)) ∧ Below w.heap.size w w') ∧
    ∀ w : World, Calls Try.prog f #[.agg #[.int .i64 0, .int .i64 0, .int .i64 0, .int .i64 0, .int .i64 0, .int .i64 0]] w fun e w' => e = .returned (.int .i64 0) ∧ Below w.heap.size w w' := by
  rcases (by omega : u = 1 ∨ u = 2 ∨ u = 3 ∨ u = 4) with rfl | rfl | rfl | rfl
  · exact ⟨_, rfl, enters_of Try.func50 (by kernel_rfl) rfl, fun n w => number1_in _ _ _ _ _ _ w, fun w => number1_in _ _ _ _ _ _ w⟩
  · exact ⟨_, rfl, enters_of Try.func51 (by kernel_rfl) rfl, fun n w => number2_in _ _ _ _ _ _ w, fun w => number2_in _ _ _ _ _ _ w⟩
  · exact ⟨_, rfl, enters_of Try.func52 (by kernel_rfl) rfl, fun n w => number3_in _ _ _ _ _ _ w, fun w => number3_in _ _ _ _ _ _ w⟩
  · exact ⟨_, rfl, enters_of Try.func53 (by kernel_rfl) rfl, fun n w => number4_in _ _ _ _ _ _ w, fun w => number4_in _ _ _ _ _ _ w⟩

set_option maxRecDepth 100000 in
set_option maxHeartbeats 2000000 in
theorem at1_in (f v0 v1 v2 v3 v4 v5 q bF bN : Nat) (n : Int) (w : World) (he : ∀ args w, (callFunc f args).run Try.prog w = .ok (.enter f args) w)
    (hF : Boxed w bF 68 (.func (.func f) #[] #[])) (hN : Boxed w bN 3 (.int .i64 n))
    (hc : ∀ W, Calls Try.prog f #[.agg #[.int .i64 (v0 : Nat), .int .i64 (v1 : Nat), .int .i64 (v2 : Nat), .int .i64 (v3 : Nat), .int .i64 (v4 : Nat), .int .i64 (v5 : Nat)]] W fun e W' => e = .returned (.int .i64 (q : Nat)) ∧ Below W.heap.size W W') :
    Calls Try.prog 32 #[.agg #[.int .i64 (v0 : Nat), .int .i64 (v1 : Nat), .int .i64 (v2 : Nat), .int .i64 (v3 : Nat), .int .i64 (v4 : Nat), .int .i64 (v5 : Nat)], .pointer (some ⟨bF, 0, none⟩), .pointer (some ⟨bN, 0, none⟩)] w fun e w' => e = .returned (.bool (decide (n ≤ (q : Nat)))) ∧ Below w.heap.size w w' := by
  have hB0 : Below w.heap.size w (w.alloc (.cells #[.int .i64 (v0 : Nat), .int .i64 (v1 : Nat), .int .i64 (v2 : Nat), .int .i64 (v3 : Nat), .int .i64 (v4 : Nat), .int .i64 (v5 : Nat)] 29)) := (Below.refl _ w).alloc (Nat.le_refl _) _
  have b6 := Box6.new w (.int .i64 (v0 : Nat)) (.int .i64 (v1 : Nat)) (.int .i64 (v2 : Nat)) (.int .i64 (v3 : Nat)) (.int .i64 (v4 : Nat)) (.int .i64 (v5 : Nat))
  go_enter Try.func32, Try.ntmps32
  go_wp2_with fail
  refine wp_region_any (by kernel_rfl) ?_
  change wpAny _ _ _ _ _ _ _ (World.drew _)
  generalize w.alloc (.cells #[.int .i64 (v0 : Nat), .int .i64 (v1 : Nat), .int .i64 (v2 : Nat), .int .i64 (v3 : Nat), .int .i64 (v4 : Nat), .int .i64 (v5 : Nat)] 29) = w0 at hB0 b6 ⊢
  refine region_inv 10 (fun j => if j = 5 then 4 else 5 + j) [(1, .pointer (some ⟨bF, 0, none⟩)), (2, .pointer (some ⟨bN, 0, none⟩)), (3, .pointer (some ⟨w.heap.size, 0, none⟩))]
    (fun W => Below w0.heap.size w0 W)
    (valsOf [isV (.func (.func f) #[] #[]), isV (.agg #[.int .i64 (v0 : Nat), .int .i64 (v1 : Nat), .int .i64 (v2 : Nat), .int .i64 (v3 : Nat), .int .i64 (v4 : Nat), .int .i64 (v5 : Nat)]), isV (.int .i64 (q : Nat)), isV (.int .i64 n), isV (.bool (decide (n ≤ (q : Nat)))), isV (.bool (decide (n ≤ (q : Nat))))])
    (fun w w' => Below w.heap.size w w') ?fit (fun w1 w2 h hG => h.trans (hG.mono h.size)) (valsOf_stable ?stable) [] ?gs ?gv ?steps ?fin _ _ ?sz rfl ?base ?start
  case fit => kernel_rfl
  case sz => rfl
  case gs => kernel_rfl
  case gv => intro p hp w v hv; cases hp
  case base => intro p hp; simp at hp; rcases hp with rfl | rfl | rfl <;> rfl
  case stable => exact Stables.all (by repeat (first | exact .nil | refine .same ?_))
  case start => exact (Below.refl _ _).drew
  case steps =>
    refine .cons (fun ρ w1 hρ hJ hb hd => by
      have e1 := hb (1, _) (List.mem_of_getElem? (i := 0) rfl)
      have c1 := (boxed_below hF (bnext hB0 hJ)).cell
      exact step_val (v := .func (.func f) #[] #[]) (w' := w1) (by simp [go_sem, execOp, e1, c1]) ⟨Below.refl _ _, rfl⟩) ?_
    refine .cons (fun ρ w1 hρ hJ hb hd => by
      have e1 := hb (3, _) (List.mem_of_getElem? (i := 2) rfl)
      obtain ⟨c0, c1, c2, c3, c4, c5, _⟩ := (b6.below hJ).facts
      exact step_val (v := .agg #[.int .i64 (v0 : Nat), .int .i64 (v1 : Nat), .int .i64 (v2 : Nat), .int .i64 (v3 : Nat), .int .i64 (v4 : Nat), .int .i64 (v5 : Nat)]) (w' := w1) (by simp [go_sem, execOp, e1, c0, c1, c2, c3, c4, c5]) ⟨Below.refl _ _, rfl⟩) ?_
    refine .cons (fun ρ w1 hρ hJ hb hd => by
      have d1 : ρ (.tmp 5) = .func (.func f) #[] #[] := hd 0 _ rfl rfl
      have d2 : ρ (.tmp 6) = .agg #[.int .i64 (v0 : Nat), .int .i64 (v1 : Nat), .int .i64 (v2 : Nat), .int .i64 (v3 : Nat), .int .i64 (v4 : Nat), .int .i64 (v5 : Nat)] := hd 1 _ rfl rfl
      refine step_clo (.tmp 5) f #[] _ _ _ rfl d1 he (by simp [d2]) ((hc w1).mono ?_)
      rintro e w2 ⟨rfl, hb2⟩
      exact ⟨_, rfl, hb2, rfl⟩) ?_
    refine .cons (fun ρ w1 hρ hJ hb hd => by
      have e1 := hb (2, _) (List.mem_of_getElem? (i := 1) rfl)
      have c1 := (boxed_below hN (bnext hB0 hJ)).cell
      exact step_val (v := .int .i64 n) (w' := w1) (by simp [go_sem, execOp, e1, c1]) ⟨Below.refl _ _, rfl⟩) ?_
    refine .cons (fun ρ w1 hρ hJ hb hd => by
      have d1 : ρ (.tmp 7) = .int .i64 (q : Nat) := hd 0 _ rfl rfl
      have d2 : ρ (.tmp 8) = .int .i64 n := hd 1 _ rfl rfl
      exact step_val (v := .bool (decide (n ≤ (q : Nat)))) (w' := w1) (by simp [go_sem, execOp, d1, d2]) ⟨Below.refl _ _, rfl⟩) ?_
    refine .cons (fun ρ w1 hρ hJ hb hd => step_assign (.tmp 9) rfl ⟨Below.refl _ _, (hd 0 _ rfl rfl : ρ (.tmp 9) = .bool (decide (n ≤ (q : Nat))))⟩) (.nil _)
  case fin =>
    intro a W hsz hds hJ hv
    have h4 : a.eval (.tmp 4) = .bool (decide (n ≤ (q : Nat))) := hv 5 (by decide)
    clear hv
    go_wp2
    refine bodyPost_ret (v := .bool (decide (n ≤ (q : Nat)))) ?_ hds ⟨rfl, bnext hB0 hJ⟩
    have h4s := eval_some (a := a) (t := 4) (by omega)
    rw [h4] at h4s
    simp [results, Try.f32, h4s]

/-- what At answers -/
def atV (s : ByteArray) (u n : Int) : Value :=
  if ¬ (1 ≤ u ∧ u ≤ 4) then .tuple #[zeroV, .int .i64 1] else if n < 0 ∨ (pQ s u (pN s) : Nat) < n then .tuple #[zeroV, .int .i64 3] else
    if (pQ s u (atK s u n) : Nat) = n then .tuple #[spN s (atK s u n), .int .i64 0] else .tuple #[zeroV, .int .i64 4]

set_option maxRecDepth 100000 in
set_option maxHeartbeats 2000000 in
/-- no unit, or no Map -/
theorem at_arg (a : Option Addr) (u n : Int) (w : World) (hu : a = none ∨ ¬ (1 ≤ u ∧ u ≤ 4)) :
    Calls Try.prog 13 #[.pointer a, .int .i64 u, .int .i64 n] w fun e w' => e = .returned (.tuple #[zeroV, .int .i64 1]) ∧ Below w.heap.size w w' := by
  have hB0 : ∀ A B : Obj, Below w.heap.size w ((w.alloc A).alloc B) := fun A B => ((Below.refl _ w).alloc (Nat.le_refl _) _).alloc (by simp) _
  have hL := fun w => hide (len_none a u w hu)
  have HB := hide hB0
  have b6 := hide (Box6.new (w.alloc (.cells #[.int .i64 n] 3)) (.int .i64 0) (.int .i64 0) (.int .i64 0) (.int .i64 0) (.int .i64 0) (.int .i64 0))
  clear hB0 hu
  go_enter Try.func13, Try.ntmps13
  go_wp2_with (go_at_call 14; refine (unhide (hL _)).mono ?_; rintro e w1 ⟨rfl, hb1⟩; obtain ⟨c0, c1, c2, c3, c4, c5, f0, f1, f2, f3, f4, f5⟩ := ((unhide b6).below hb1).facts; rw [World.size_alloc] at c0 c1 c2 c3 c4 c5 f0 f1 f2 f3 f4 f5)
  refine bodyPost_ret (v := .tuple #[zeroV, .int .i64 1]) ?_ rfl ⟨rfl, ?_⟩
  · simp [results, Try.f13, go_sem, zeroV, spV, *]
  · exact bset6 (bnext (unhide HB _ _) hb1) (by omega) _ _ _ _ _ _

set_option maxRecDepth 100000 in
set_option maxHeartbeats 2000000 in
theorem at_out (s : ByteArray) (p : Nat) (u n : Int) (w : World) (hs : s.size ≤ 1000000) (hm : MapAt s p w) (hu : 1 ≤ u ∧ u ≤ 4) (hn : n < 0 ∨ (pQ s u (pN s) : Nat) < n) :
    Calls Try.prog 13 #[.pointer (some ⟨p, 0, none⟩), .int .i64 u, .int .i64 n] w fun e w' => e = .returned (.tuple #[zeroV, .int .i64 3]) ∧ Below w.heap.size w w' := by
  have hB0 : ∀ A B : Obj, Below w.heap.size w ((w.alloc A).alloc B) := fun A B => ((Below.refl _ w).alloc (Nat.le_refl _) _).alloc (by simp) _
  have hL := fun A B => hide (len_known s p u ((w.alloc A).alloc B) hs (hm.below (hB0 A B)) hu)
  have HB := hide hB0
  have bN := hide (Boxed.new w 3 (.int .i64 n))
  have b6 := hide (Box6.new (w.alloc (.cells #[.int .i64 n] 3)) (.int .i64 0) (.int .i64 0) (.int .i64 0) (.int .i64 0) (.int .i64 0) (.int .i64 0))
  obtain ⟨q, hq⟩ : ∃ q : Nat, pQ s u (pN s) = q := ⟨_, rfl⟩
  rw [hq] at hn hL
  clear hB0 hu hm hs hq
  by_cases h1 : n < 0
  · clear hn
    go_enter Try.func13, Try.ntmps13
    go_wp2_with (go_at_call 14; refine (unhide (hL _ _)).mono ?_; rintro e w1 ⟨rfl, hb1⟩; obtain ⟨c0, c1, c2, c3, c4, c5, f0, f1, f2, f3, f4, f5⟩ := ((unhide b6).below hb1).facts; rw [World.size_alloc] at c0 c1 c2 c3 c4 c5 f0 f1 f2 f3 f4 f5; have cn := (boxed_below ((unhide bN).alloc _) hb1).cell)
    refine bodyPost_ret (v := .tuple #[zeroV, .int .i64 3]) ?_ rfl ⟨rfl, ?_⟩
    · simp [results, Try.f13, go_sem, zeroV, spV, *]
    · exact bset6 (bnext (unhide HB _ _) hb1) (by omega) _ _ _ _ _ _
  · have h2 : (q : Int) < n := by omega
    clear hn
    go_enter Try.func13, Try.ntmps13
    go_wp2_with (go_at_call 14; refine (unhide (hL _ _)).mono ?_; rintro e w1 ⟨rfl, hb1⟩; obtain ⟨c0, c1, c2, c3, c4, c5, f0, f1, f2, f3, f4, f5⟩ := ((unhide b6).below hb1).facts; rw [World.size_alloc] at c0 c1 c2 c3 c4 c5 f0 f1 f2 f3 f4 f5; have cn := (boxed_below ((unhide bN).alloc _) hb1).cell)
    refine bodyPost_ret (v := .tuple #[zeroV, .int .i64 3]) ?_ rfl ⟨rfl, ?_⟩
    · simp [results, Try.f13, go_sem, zeroV, spV, *]
    · exact bset6 (bnext (unhide HB _ _) hb1) (by omega) _ _ _ _ _ _

set_option maxRecDepth 100000 in
set_option maxHeartbeats 4000000 in
theorem at_fnd (s : ByteArray) (p : Nat) (u n : Int) (w : World) (hs : s.size ≤ 1000000) (hm : MapAt s p w) (hu : 1 ≤ u ∧ u ≤ 4) (hn0 : 0 ≤ n) (hn : n ≤ (pQ s u (pN s) : Nat)) :
    Calls Try.prog 13 #[.pointer (some ⟨p, 0, none⟩), .int .i64 u, .int .i64 n] w fun e w' => e = .returned (if (pQ s u (atK s u n) : Nat) = n then .tuple #[spN s (atK s u n), .int .i64 0] else .tuple #[zeroV, .int .i64 4]) ∧ Below w.heap.size w w' := by
  obtain ⟨R, hR⟩ : ∃ R, (if (pQ s u (atK s u n) : Nat) = n then .tuple #[spN s (atK s u n), .int .i64 0] else .tuple #[zeroV, .int .i64 4] : Value) = R := ⟨_, rfl⟩
  rw [hR]
  have HR := hide hR
  clear hR
  have hB0 : ∀ A B : Obj, Below w.heap.size w ((w.alloc A).alloc B) := fun A B => ((Below.refl _ w).alloc (Nat.le_refl _) _).alloc (by simp) _
  have hL := fun A B => hide (len_known s p u ((w.alloc A).alloc B) hs (hm.below (hB0 A B)) hu)
  have HB := hide hB0
  have bN := hide (Boxed.new w 3 (.int .i64 n))
  have b6 := hide (Box6.new (w.alloc (.cells #[.int .i64 n] 3)) (.int .i64 0) (.int .i64 0) (.int .i64 0) (.int .i64 0) (.int .i64 0) (.int .i64 0))
  obtain ⟨f, hfv, he, hcall, _⟩ := num_all s u hu
  have hnum := fun w => hide (numberOf_in u w)
  rw [hfv] at hnum
  have hkl := hide (atK_le hn)
  have Hs := hide hs
  have Hm := hide hm
  have Hcall := hide hcall
  have q1 : ¬ n < 0 := by omega
  obtain ⟨q, hq⟩ : ∃ q : Nat, pQ s u (pN s) = q := ⟨_, rfl⟩
  rw [hq] at hn hL
  have q2 : ¬ (q : Int) < n := by omega
  clear hB0 hu hm hs hq hcall hfv hn hn0
  go_enter Try.func13, Try.ntmps13
  go_wp2_with (first | (go_at_call 14; refine (unhide (hL _ _)).mono ?_; rintro e w1 ⟨rfl, hb1⟩; have cn := (boxed_below ((unhide bN).alloc _) hb1).cell) | (go_at_call 31; refine (unhide (hnum _)).mono ?_; rintro e w2 ⟨rfl, hb2⟩) | (go_at_call 27; fail))
  have hB2 := bnext (bnext (unhide HB _ _) hb1) hb2
  have bN2 := boxed_below (boxed_below ((unhide bN).alloc _) hb1) hb2
  have b62 := ((unhide b6).below hb1).below hb2
  rw [World.size_alloc] at b62
  clear hb1 hb2 bN b6 hL hnum HB cn
  have hB3 := hB2.alloc hB2.size (.cells #[.func (.func f) #[] #[]] 68)
  have bF3 := Boxed.new w2 68 (.func (.func f) #[] #[])
  have bN3 := bN2.alloc (.cells #[.func (.func f) #[] #[]] 68)
  have b63 := b62.below ((Below.refl _ w2).alloc (Nat.le_refl _) (.cells #[.func (.func f) #[] #[]] 68))
  generalize w2.heap.size = F2 at bF3 ⊢
  generalize (w2.alloc (.cells #[.func (.func f) #[] #[]] 68)) = W3 at hB3 bF3 bN3 b63 ⊢
  clear hB2 bN2 b62
  refine (first_yes s p (atK s u n) 32 #[.pointer (some ⟨F2, 0, none⟩), .pointer (some ⟨w.heap.size, 0, none⟩)] (fun i => decide (n ≤ (pQ s u i : Nat))) W3 (unhide Hs) ((unhide Hm).below hB3) (enters_of Try.func32 (by kernel_rfl) rfl)
    (fun i W _ hW => at1_in f _ _ _ _ _ _ (pQ s u i) _ _ n W he (boxed_below bF3 hW) (boxed_below bN3 hW) (fun W' => unhide Hcall i W')) (unhide hkl) (fun i hi => by have := atK_low hi; exact decide_eq_false (by omega)) (fun i h1 h2 => decide_eq_true (atK_up h1 (by omega)))).mono ?_
  rintro e w4 ⟨rfl, hb4⟩
  have hB4 := bnext hB3 hb4
  have bF4 := boxed_below bF3 hb4
  have bN4 := boxed_below bN3 hb4
  have b64 := b63.below hb4
  have hcall := hide (fun W => unhide Hcall (atK s u n) W)
  obtain ⟨Q, hQ⟩ : ∃ Q : Nat, pQ s u (atK s u n) = Q := ⟨_, rfl⟩
  rw [hQ] at hcall
  have HQ := hide hQ
  obtain ⟨v0, v1, v2, v3, v4, v5, hv⟩ := spN_form s (atK s u n)
  have Hv := hide hv
  rw [hv] at hcall ⊢
  clear hB3 bF3 bN3 b63 hb4 hQ hv hkl Hcall Hs Hm
  go_wp2_with fail
  have b65 := Box6.new w4 (.int .i64 (v0 : Nat)) (.int .i64 (v1 : Nat)) (.int .i64 (v2 : Nat)) (.int .i64 (v3 : Nat)) (.int .i64 (v4 : Nat)) (.int .i64 (v5 : Nat))
  have hb45 : Below w4.heap.size w4 (w4.alloc (.cells #[.int .i64 (v0 : Nat), .int .i64 (v1 : Nat), .int .i64 (v2 : Nat), .int .i64 (v3 : Nat), .int .i64 (v4 : Nat), .int .i64 (v5 : Nat)] 29)) := (Below.refl _ w4).alloc (Nat.le_refl _) _
  replace hB4 := bnext hB4 hb45
  replace bF4 := boxed_below bF4 hb45
  replace bN4 := boxed_below bN4 hb45
  replace b64 := b64.below hb45
  generalize w4.heap.size = P4 at b65 ⊢
  generalize (w4.alloc (.cells #[.int .i64 (v0 : Nat), .int .i64 (v1 : Nat), .int .i64 (v2 : Nat), .int .i64 (v3 : Nat), .int .i64 (v4 : Nat), .int .i64 (v5 : Nat)] 29)) = w5 at hB4 bF4 bN4 b64 b65 ⊢
  clear hb45
  refine wp_region_any (by kernel_rfl) ?_
  change wpAny _ _ _ _ _ _ _ (World.drew _)
  refine region_invB 48 (fun j => 41 + j) [(0, (Value.pointer (some { block := p, off := 0 }))), (1, (Value.int IntKind.i64 u)), (2, (Value.int IntKind.i64 n)), (3, undef), (4, undef), (5, (Value.pointer (some { block := w.heap.size, off := 0 }))), (6, (Value.pointer (some { block := w.heap.size + 1, off := 0 }))), (7, (Value.int IntKind.i64 0)), (8, (Value.int IntKind.i64 ↑q)), (9, (Value.int IntKind.i64 0)), (10, (Value.pointer (some { block := F2, off := 0 }))), (11, (Value.pointer (some { block := P4, off := 0 }))), (12, (Value.bool true)), (13, (Value.tuple #[Value.int IntKind.i64 ↑q, Value.int IntKind.i64 0])), (14, (Value.pointer (some { block := p, off := 0 }))), (15, (Value.int IntKind.i64 u)), (16, (Value.tuple #[Value.int IntKind.i64 ↑q, Value.int IntKind.i64 0])), (17, (Value.int IntKind.i64 ↑q)), (18, (Value.int IntKind.i64 0)), (19, (Value.bool false)), (20, (Value.int IntKind.i64 0)), (21, (Value.bool false)), (22, undef), (23, undef), (24, (Value.bool (decide (n < 0) || decide (↑q < n)))), (25, (Value.int IntKind.i64 n)), (26, (Value.bool (decide (n < 0)))), (27, (Value.bool (decide (n < 0)))), (28, (Value.int IntKind.i64 n)), (29, (Value.int IntKind.i64 ↑q)), (30, (Value.bool (decide (↑q < n)))), (31, (Value.bool (decide (n < 0) || decide (↑q < n)))), (32, undef), (33, (Value.int IntKind.i64 u)), (34, (Value.func (Fn.func f) #[] #[])), (35, (Value.tuple #[Value.agg #[Value.int IntKind.i64 ↑v0, Value.int IntKind.i64 ↑v1, Value.int IntKind.i64 ↑v2, Value.int IntKind.i64 ↑v3, Value.int IntKind.i64 ↑v4, Value.int IntKind.i64 ↑v5], Value.bool true])), (36, (Value.pointer (some { block := p, off := 0 }))), (37, (Value.func (Fn.func 32) #[] #[Value.pointer (some { block := F2, off := 0 }), Value.pointer (some { block := w.heap.size, off := 0 })])), (38, (Value.tuple #[Value.agg #[Value.int IntKind.i64 ↑v0, Value.int IntKind.i64 ↑v1, Value.int IntKind.i64 ↑v2, Value.int IntKind.i64 ↑v3, Value.int IntKind.i64 ↑v4, Value.int IntKind.i64 ↑v5], Value.bool true])), (39, (Value.agg #[Value.int IntKind.i64 ↑v0, Value.int IntKind.i64 ↑v1, Value.int IntKind.i64 ↑v2, Value.int IntKind.i64 ↑v3, Value.int IntKind.i64 ↑v4, Value.int IntKind.i64 ↑v5])), (40, (Value.bool true)), (46, undef), (47, undef)]
    (fun W => Below w5.heap.size w5 W)
    (valsOf [isV (.func (.func f) #[] #[]), isV (.agg #[.int .i64 (v0 : Nat), .int .i64 (v1 : Nat), .int .i64 (v2 : Nat), .int .i64 (v3 : Nat), .int .i64 (v4 : Nat), .int .i64 (v5 : Nat)]), isV (.int .i64 (Q : Nat)), isV (.int .i64 n), isV (.bool ((Q : Int) != n))])
    (fun w w' => Below w.heap.size w w') ?fit (fun w1 w2 h hG => h.trans (hG.mono h.size)) (valsOf_stable ?stable) [] ?gs ?gv ?steps ?fin _ _ ?sz rfl ?base ?start
  case fit => kernel_rfl
  case sz => rfl
  case gs => kernel_rfl
  case gv => intro p hp w v hv; cases hp
  case base => intro p hp; repeat (first | (rcases List.mem_cons.1 hp with rfl | hp; · rfl) | cases hp)
  case stable => exact Stables.all (by repeat (first | exact .nil | refine .same ?_))
  case start => exact (Below.refl _ _).drew
  case steps =>
    refine .cons (fun ρ wz hρ hJ hb hd => by
      have d0 : ρ (.tmp 10) = (Value.pointer (some { block := F2, off := 0 })) := hb (10, _) (List.mem_of_getElem? (i := 10) rfl)
      have c1 := (boxed_below bF4 hJ).cell
      exact step_val (v := (.func (.func f) #[] #[])) (w' := wz) (by simp [go_sem, execOp, d0, c1]) ⟨Below.refl _ _, rfl⟩) ?_
    refine .cons (fun ρ wz hρ hJ hb hd => by
      have d0 : ρ (.tmp 11) = (Value.pointer (some { block := P4, off := 0 })) := hb (11, _) (List.mem_of_getElem? (i := 11) rfl)
      obtain ⟨c0, c1, c2, c3, c4, c5, _⟩ := (b65.below hJ).facts
      exact step_val (v := (.agg #[.int .i64 (v0 : Nat), .int .i64 (v1 : Nat), .int .i64 (v2 : Nat), .int .i64 (v3 : Nat), .int .i64 (v4 : Nat), .int .i64 (v5 : Nat)])) (w' := wz) (by simp [go_sem, execOp, d0, c0, c1, c2, c3, c4, c5]) ⟨Below.refl _ _, rfl⟩) ?_
    refine .cons (fun ρ wz hρ hJ hb hd => by
      have d0 : ρ (.tmp 41) = (.func (.func f) #[] #[]) := hd 0 _ rfl rfl
      have d1 : ρ (.tmp 42) = (.agg #[.int .i64 (v0 : Nat), .int .i64 (v1 : Nat), .int .i64 (v2 : Nat), .int .i64 (v3 : Nat), .int .i64 (v4 : Nat), .int .i64 (v5 : Nat)]) := hd 1 _ rfl rfl
      refine step_clo (.tmp 41) f #[] _ _ _ rfl d0 he (by simp [d1]) ((unhide hcall wz).mono ?_)
      rintro e w2 ⟨rfl, hb2⟩
      exact ⟨_, rfl, hb2, rfl⟩) ?_
    refine .cons (fun ρ wz hρ hJ hb hd => by
      have d0 : ρ (.tmp 5) = (Value.pointer (some { block := w.heap.size, off := 0 })) := hb (5, _) (List.mem_of_getElem? (i := 5) rfl)
      have c1 := (boxed_below bN4 hJ).cell
      exact step_val (v := (.int .i64 n)) (w' := wz) (by simp [go_sem, execOp, d0, c1]) ⟨Below.refl _ _, rfl⟩) ?_
    refine .cons (fun ρ wz hρ hJ hb hd => by
      have d0 : ρ (.tmp 43) = (.int .i64 (Q : Nat)) := hd 0 _ rfl rfl
      have d1 : ρ (.tmp 44) = (.int .i64 n) := hd 1 _ rfl rfl
      exact step_val (v := (.bool ((Q : Int) != n))) (w' := wz) (by simp [go_sem, execOp, d0, d1, hρ.const]) ⟨Below.refl _ _, rfl⟩) (.nil _)
  case fin =>
    intro a W5 hsz2 hds hb hJ hv
    obtain rfl := frame_of ([(0, (Value.pointer (some { block := p, off := 0 }))), (1, (Value.int IntKind.i64 u)), (2, (Value.int IntKind.i64 n)), (3, undef), (4, undef), (5, (Value.pointer (some { block := w.heap.size, off := 0 }))), (6, (Value.pointer (some { block := w.heap.size + 1, off := 0 }))), (7, (Value.int IntKind.i64 0)), (8, (Value.int IntKind.i64 ↑q)), (9, (Value.int IntKind.i64 0)), (10, (Value.pointer (some { block := F2, off := 0 }))), (11, (Value.pointer (some { block := P4, off := 0 }))), (12, (Value.bool true)), (13, (Value.tuple #[Value.int IntKind.i64 ↑q, Value.int IntKind.i64 0])), (14, (Value.pointer (some { block := p, off := 0 }))), (15, (Value.int IntKind.i64 u)), (16, (Value.tuple #[Value.int IntKind.i64 ↑q, Value.int IntKind.i64 0])), (17, (Value.int IntKind.i64 ↑q)), (18, (Value.int IntKind.i64 0)), (19, (Value.bool false)), (20, (Value.int IntKind.i64 0)), (21, (Value.bool false)), (22, undef), (23, undef), (24, (Value.bool (decide (n < 0) || decide (↑q < n)))), (25, (Value.int IntKind.i64 n)), (26, (Value.bool (decide (n < 0)))), (27, (Value.bool (decide (n < 0)))), (28, (Value.int IntKind.i64 n)), (29, (Value.int IntKind.i64 ↑q)), (30, (Value.bool (decide (↑q < n)))), (31, (Value.bool (decide (n < 0) || decide (↑q < n)))), (32, undef), (33, (Value.int IntKind.i64 u)), (34, (Value.func (Fn.func f) #[] #[])), (35, (Value.tuple #[Value.agg #[Value.int IntKind.i64 ↑v0, Value.int IntKind.i64 ↑v1, Value.int IntKind.i64 ↑v2, Value.int IntKind.i64 ↑v3, Value.int IntKind.i64 ↑v4, Value.int IntKind.i64 ↑v5], Value.bool true])), (36, (Value.pointer (some { block := p, off := 0 }))), (37, (Value.func (Fn.func 32) #[] #[Value.pointer (some { block := F2, off := 0 }), Value.pointer (some { block := w.heap.size, off := 0 })])), (38, (Value.tuple #[Value.agg #[Value.int IntKind.i64 ↑v0, Value.int IntKind.i64 ↑v1, Value.int IntKind.i64 ↑v2, Value.int IntKind.i64 ↑v3, Value.int IntKind.i64 ↑v4, Value.int IntKind.i64 ↑v5], Value.bool true])), (39, (Value.agg #[Value.int IntKind.i64 ↑v0, Value.int IntKind.i64 ↑v1, Value.int IntKind.i64 ↑v2, Value.int IntKind.i64 ↑v3, Value.int IntKind.i64 ↑v4, Value.int IntKind.i64 ↑v5])), (40, (Value.bool true)), (46, undef), (47, undef)] ++ [(41, (.func (.func f) #[] #[])), (42, (.agg #[.int .i64 (v0 : Nat), .int .i64 (v1 : Nat), .int .i64 (v2 : Nat), .int .i64 (v3 : Nat), .int .i64 (v4 : Nat), .int .i64 (v5 : Nat)])), (43, (.int .i64 (Q : Nat))), (44, (.int .i64 n)), (45, (.bool ((Q : Int) != n)))]) [(Value.pointer (some { block := p, off := 0 })), (Value.int IntKind.i64 u), (Value.int IntKind.i64 n), undef, undef, (Value.pointer (some { block := w.heap.size, off := 0 })), (Value.pointer (some { block := w.heap.size + 1, off := 0 })), (Value.int IntKind.i64 0), (Value.int IntKind.i64 ↑q), (Value.int IntKind.i64 0), (Value.pointer (some { block := F2, off := 0 })), (Value.pointer (some { block := P4, off := 0 })), (Value.bool true), (Value.tuple #[Value.int IntKind.i64 ↑q, Value.int IntKind.i64 0]), (Value.pointer (some { block := p, off := 0 })), (Value.int IntKind.i64 u), (Value.tuple #[Value.int IntKind.i64 ↑q, Value.int IntKind.i64 0]), (Value.int IntKind.i64 ↑q), (Value.int IntKind.i64 0), (Value.bool false), (Value.int IntKind.i64 0), (Value.bool false), undef, undef, (Value.bool (decide (n < 0) || decide (↑q < n))), (Value.int IntKind.i64 n), (Value.bool (decide (n < 0))), (Value.bool (decide (n < 0))), (Value.int IntKind.i64 n), (Value.int IntKind.i64 ↑q), (Value.bool (decide (↑q < n))), (Value.bool (decide (n < 0) || decide (↑q < n))), undef, (Value.int IntKind.i64 u), (Value.func (Fn.func f) #[] #[]), (Value.tuple #[Value.agg #[Value.int IntKind.i64 ↑v0, Value.int IntKind.i64 ↑v1, Value.int IntKind.i64 ↑v2, Value.int IntKind.i64 ↑v3, Value.int IntKind.i64 ↑v4, Value.int IntKind.i64 ↑v5], Value.bool true]), (Value.pointer (some { block := p, off := 0 })), (Value.func (Fn.func 32) #[] #[Value.pointer (some { block := F2, off := 0 }), Value.pointer (some { block := w.heap.size, off := 0 })]), (Value.tuple #[Value.agg #[Value.int IntKind.i64 ↑v0, Value.int IntKind.i64 ↑v1, Value.int IntKind.i64 ↑v2, Value.int IntKind.i64 ↑v3, Value.int IntKind.i64 ↑v4, Value.int IntKind.i64 ↑v5], Value.bool true]), (Value.agg #[Value.int IntKind.i64 ↑v0, Value.int IntKind.i64 ↑v1, Value.int IntKind.i64 ↑v2, Value.int IntKind.i64 ↑v3, Value.int IntKind.i64 ↑v4, Value.int IntKind.i64 ↑v5]), (Value.bool true), (.func (.func f) #[] #[]), (.agg #[.int .i64 (v0 : Nat), .int .i64 (v1 : Nat), .int .i64 (v2 : Nat), .int .i64 (v3 : Nat), .int .i64 (v4 : Nat), .int .i64 (v5 : Nat)]), (.int .i64 (Q : Nat)), (.int .i64 n), (.bool ((Q : Int) != n)), undef, undef] hsz2 hds (fun p hp => by
      rcases List.mem_append.1 hp with h | h
      · exact hb p h
      · simp only [List.mem_cons, List.not_mem_nil, or_false] at h
        rcases h with rfl | rfl | rfl | rfl | rfl
        · exact hv 0 (by decide)
        · exact hv 1 (by decide)
        · exact hv 2 (by decide)
        · exact hv 3 (by decide)
        · exact hv 4 (by decide)) rfl
    clear hb hv hds hsz2
    have hB5 := bnext hB4 hJ
    obtain ⟨c0, c1, c2, c3, c4, c5, f0, f1, f2, f3, f4, f5⟩ := (b64.below hJ).facts
    obtain ⟨e0, e1, e2, e3, e4, e5, _⟩ := (b65.below hJ).facts
    clear bF4 bN4 b64 b65 hB4 hcall
    by_cases hQn : (Q : Int) = n
    · rw [show ((Q : Int) != n) = false by simp [hQn]]
      go_wp2
      refine bodyPost_ret (v := .tuple #[.agg #[.int .i64 (v0 : Nat), .int .i64 (v1 : Nat), .int .i64 (v2 : Nat), .int .i64 (v3 : Nat), .int .i64 (v4 : Nat), .int .i64 (v5 : Nat)], .int .i64 0]) ?_ rfl ⟨?_, ?_⟩
      · simp [results, Try.f13, go_sem, *]
      · rw [← unhide HR, unhide HQ, if_pos hQn, unhide Hv]
      · exact bset6 hB5 (by omega) _ _ _ _ _ _
    · rw [show ((Q : Int) != n) = true by simp [hQn]]
      go_wp2
      refine bodyPost_ret (v := .tuple #[zeroV, .int .i64 4]) ?_ rfl ⟨?_, ?_⟩
      · simp [results, Try.f13, go_sem, zeroV, spV, *]
      · rw [← unhide HR, unhide HQ, if_neg hQn]
      · exact bset6 hB5 (by omega) _ _ _ _ _ _

theorem at_in (s : ByteArray) (p : Nat) (u n : Int) (w : World) (hs : s.size ≤ 1000000) (hm : MapAt s p w) :
    Calls Try.prog 13 #[.pointer (some ⟨p, 0, none⟩), .int .i64 u, .int .i64 n] w fun e w' => e = .returned (atV s u n) ∧ Below w.heap.size w w' := by
  unfold atV
  by_cases hu : 1 ≤ u ∧ u ≤ 4
  · rw [if_neg (fun h => h hu)]
    by_cases hn : n < 0 ∨ (pQ s u (pN s) : Nat) < n
    · rw [if_pos hn]; exact at_out s p u n w hs hm hu hn
    · rw [if_neg hn]; exact at_fnd s p u n w hs hm hu (by omega) (by omega)
  · rw [if_pos hu]; exact at_arg _ u n w (.inr hu)

end Go.Proofs.Ytiakhpfljjfaeaa
