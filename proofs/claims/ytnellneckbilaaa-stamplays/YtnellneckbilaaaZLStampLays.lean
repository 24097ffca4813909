/-
  Chapter 6's law StampLays returns true for all two lists of items, and leaves its arguments as they were; no condition.
-/
import Derived.Test.YtnellneckbilaaaRows
import Derived.WalkKit
import Derived.ProofKit
import Derived.OpenShut
import Derived.ShutString
import Derived.ChangeOld
import Derived.Below
import Derived.Test.YtnellneckbilaaaZLZ
import Derived.Test.YtnellneckbilaaaZEQ
import Derived.Test.YtnellneckbilaaaZRegI
import Derived.Test.YtnellneckbilaaaZRegB
import Derived.Deep.CutRange
import Derived.Deep.RegionWith
set_option linter.unusedVariables false
set_option linter.unusedSimpArgs false
namespace Go.Proofs.Ytnellneckbilaaa
namespace LStampLays
open Go.ChangeShapes Go.WideShapes Go.ChangeAt Go.RowKit Go.Lib
open Go.ChangeMaps (open_string shut_string)

theorem small {l : List (Bool × Int × ByteArray)} (hl : ∀ x ∈ l, x.2.2.size ≤ 50000) (i : Nat) (hi : i ≤ 401) : (wAll l i).1.length ≤ 1000000000 := by
  refine Nat.le_trans (wAll_len hl i) (Nat.le_trans (Nat.mul_le_mul_right _ hi) (by decide))

set_option maxRecDepth 100000 in
set_option maxHeartbeats 8000000 in
theorem walk (a0 : Option Addr) (len0 cap0 : Nat) (z0 : List (Bool × Int × ByteArray)) (a1 : Option Addr) (len1 cap1 : Nat) (z1 : List (Bool × Int × ByteArray)) (W : World)
    (w0 : RT W (.slice a0 len0 cap0) z0 ∧ z0.length = len0 ∧ len0 ≤ maxLen ∧ ∀ e ∈ z0, itemIn e) (w1 : RT W (.slice a1 len1 cap1) z1 ∧ z1.length = len1 ∧ len1 ≤ maxLen ∧ ∀ e ∈ z1, itemIn e) :
    Calls Try.prog 7 #[.slice a0 len0 cap0, .slice a1 len1 cap1] W fun e W' => e = .returned (.bool true) ∧ Below W.heap.size W W' := by
  obtain ⟨h0, hl0, -, hin0⟩ := w0
  obtain ⟨h1, hl1, -, hin1⟩ := w1
  have mixed : Try.prog.follows .mixedOrders = true := by kernel_rfl
  have HM0 := hide (much_in _ z0 none 0 0 W h0)
  have HM1 := hide (much_in _ z1 none 0 0 W h1)
  have HK := hide (known_in W)
  have H0 := hide h0
  have H1 := hide h1
  have E0 := hide hl0
  have E1 := hide hl1
  have I0 := hide hin0
  have I1 := hide hin1
  clear h0 h1 hl0 hl1 hin0 hin1
  go_enter Try.func7, Try.ntmps7
  go_wp2_with fail
  refine (unhide HM0).mono ?_
  rintro e X ⟨⟨b, rfl, hb0⟩, hX⟩
  subst hX
  cases b with
  | true =>
    clear hb0
    go_wp2_with fail
    refine (unhide HK).mono ?_
    rintro e X2 ⟨rfl, hb⟩
    go_wp2
    go_ret
    exact ⟨rfl, hb⟩
  | false =>
    obtain ⟨hn0, -, hz0⟩ := hb0 rfl
    have Z0 := hide hz0
    have hs0 : len0 ≤ 400 := by have := unhide E0; omega
    clear hb0 hz0 hn0
    go_wp2_with fail
    refine (unhide HM1).mono ?_
    rintro e w ⟨⟨b, rfl, hb1⟩, hX2⟩
    subst hX2
    cases b with
    | true =>
      clear hb1
      go_wp2_with fail
      refine (unhide HK).mono ?_
      rintro e X3 ⟨rfl, hb⟩
      go_wp2
      go_ret
      exact ⟨rfl, hb⟩
    | false =>
      obtain ⟨hn1, -, hz1⟩ := hb1 rfl
      have Z1 := hide hz1
      have hs1 : len1 ≤ 400 := by have := unhide E1; omega
      clear hb1 hz1 hn1 HM0 HM1 HK
      obtain ⟨W4, hW4⟩ : ∃ X, ((((w.alloc (.cells #[.slice none 0 0, .int .i64 0] 52)).alloc (.cells #[.slice none 0 0, .int .i64 0] 52)).alloc (.cells #[.slice none 0 0, .int .i64 0] 54)).alloc (.cells #[.slice none 0 0, .int .i64 0] 54)) = X := ⟨_, rfl⟩
      have HS0 : Hid (∃ v1 v2 u1 u2, LSt w W4 w.heap.size (w.heap.size + 1) (w.heap.size + 1 + 1) (w.heap.size + 1 + 1 + 1) v1 v2 u1 u2 (wAll z0 0) (wAll z1 0) (wAll z0 0) (wAll z1 0)) := by rw [← hW4]; exact ⟨_, _, _, _, LSt.new w⟩
      obtain ⟨nm, hnm0, hnm1, hnm⟩ : ∃ nm, len0 ≤ nm ∧ len1 ≤ nm ∧ nm ≤ 400 := ⟨400, hs0, hs1, Nat.le_refl _⟩
      go_wp2
      clear hW4
      generalize w.heap.size + 1 + 1 + 1 = q2 at HS0 ⊢
      generalize w.heap.size + 1 + 1 = q1 at HS0 ⊢
      generalize w.heap.size + 1 = p2 at HS0 ⊢
      go_loopw [9] (fun iv wr => ∃ i : Nat, iv = .int .i64 (i : Nat) ∧ i ≤ nm ∧ Hid (∃ v1 v2 u1 u2, LSt w wr w.heap.size p2 q1 q2 v1 v2 u1 u2 (wAll z0 i) (wAll z1 i) (wAll z0 i) (wAll z1 i))) (fun iv _ => nm - (Lib.intOf iv).toNat)
      case atStart => exact ⟨0, rfl, by omega, HS0⟩
      case round =>
        obtain ⟨i, rfl, hi, HS⟩ := hrel
        obtain ⟨v1, v2, u1, u2, hS⟩ := unhide HS
        clear HS
        by_cases hA : i < len0
        · have hA0 : (i : Int) < (len0 : Int) := by omega
          obtain ⟨x, hx⟩ : ∃ x, z0[i]? = some x := ⟨_, List.getElem?_eq_getElem (by have := unhide E0; omega)⟩
          have hxin := unhide I0 x (List.mem_of_getElem? hx)
          have hxs := unhide Z0 x (List.mem_of_getElem? hx)
          obtain ⟨b0, off0, rfl, hb, c0, c1, c2⟩ := RT.at ((unhide H0).below hS.bel) hx
          obtain ⟨bt0, xn0, xs0⟩ := x
          simp only at c0 c1 c2 hxs
          have hsm := small (unhide Z0) i (by omega)
          have HLy := hide (lay_in bt0 xn0 xs0 hS.a1 hxin.1 hxs hsm)
          replace hS := hide hS
          go_wp2_with fail
          refine (unhide HLy).mono ?_
          rintro r X1 ⟨rfl, vn, hw', k', o'⟩
          obtain ⟨T1, hT1⟩ : ∃ T1, wItm (wAll z0 i) (bt0, xn0, xs0) = T1 := ⟨_, rfl⟩
          have hS1 := ((unhide hS).lay (s1' := wItm (wAll z0 i) (bt0, xn0, xs0)) hw' k' o')
          have HLa := hide (fun W' (hb : Below X1.heap.size X1 W') => laid_in W' u1 (wAll z0 i).1 (wAll z0 i).2 bt0 xn0 xs0 (hS1.r1.below hb) hxin.1 hxs hsm)
          obtain ⟨b', off', e5, hb', c0, c1, c2⟩ := RT.at ((unhide H0).below hS1.bel) hx
          simp only [Option.some.injEq, Addr.mk.injEq, and_true] at e5
          obtain ⟨rfl, rfl⟩ := e5
          simp only at c0 c1 c2
          have d0 : X1.cell? ⟨q1, 0, none⟩ = some u1 := hS1.b1.cell 0 _ rfl
          have d1 : X1.cell? ⟨q1, 1, none⟩ = some (.int .i64 (wAll z0 i).2) := hS1.b1.cell 1 _ rfl
          have S1 := hide hS1
          have HE0 := hide (show wAll z0 (i + 1) = T1 by rw [wAll_step hx, hT1])
          rw [hT1] at S1 HLa
          generalize he1 : (wAll z0 i).2 = en at d1 HLa
          have HLb : Calls Try.prog 29 #[.agg #[u1, .int .i64 en], .agg #[.bool bt0, .int .i64 xn0, .string xs0]] X1.drew fun r X2 => ∃ a5 n5 c5, r = .returned (.agg #[.slice a5 n5 c5, .int .i64 T1.2]) ∧ X2.cell? ⟨q1, 0, none⟩ = some u1 ∧ X2.cell? ⟨q1, 1, none⟩ = some (.int .i64 en) ∧ X2.frozen? ⟨q1, 0, none⟩ = false ∧ X2.frozen? ⟨q1, 1, none⟩ = false ∧ Hid (LSt w ((X2.setCell ⟨q1, 0, none⟩ (.slice a5 n5 c5)).setCell ⟨q1, 1, none⟩ (.int .i64 T1.2)) w.heap.size p2 q1 q2 vn v2 (.slice a5 n5 c5) u2 T1 (wAll z1 i) T1 (wAll z1 i)) := by
            refine (unhide HLa _ (Below.refl _ X1).drew).mono ?_
            rintro r X2 ⟨un, rfl, hrc, hfr, hbl⟩
            obtain ⟨a5, c5, rfl⟩ := RC.form hrc
            have hbl' : Below X1.heap.size X1 X2 := bnext (Below.refl _ X1).drew hbl
            have hbb := (unhide S1).b1.below hbl'
            exact ⟨a5, _, c5, rfl, hbb.cell 0 _ rfl, (hbb.cell 1 _ rfl).trans (by rw [← he1]; rfl), hbb.frozen 0, hbb.frozen 1, hide (((unhide S1).store hbl' hrc hfr))⟩
          replace HLb := hide HLb
          clear he1
          clear hS hS1 hw' k' o' HLy hx hxin hsm hT1 hb hb' HLa
          go_upto_region 12 with fail
          go_cut [48] from 43 to 48 (fun v wx => Hid (∃ un, LSt w wx w.heap.size p2 q1 q2 vn v2 un u2 T1 (wAll z1 i) T1 (wAll z1 i)))
          case first =>
            go_region_with (go_at_call 29; refine (unhide HLb).mono ?_; rintro r X2 ⟨a5, n5, c5, rfl, x0, x1, y0, y1, HF⟩)
            all_goals (go_wp2; go_meet)
            all_goals exact ⟨_, unhide HF⟩
          case rest =>
            obtain ⟨un, hS⟩ := unhide hcut
            clear hcut c0 c1 c2 d0 d1 HLb S1
            by_cases hB : i < len1
            · have hA1 : (i : Int) < (len1 : Int) := by omega
              obtain ⟨x, hx⟩ : ∃ x, z1[i]? = some x := ⟨_, List.getElem?_eq_getElem (by have := unhide E1; omega)⟩
              have hxin := unhide I1 x (List.mem_of_getElem? hx)
              have hxs := unhide Z1 x (List.mem_of_getElem? hx)
              obtain ⟨b1, off1, rfl, hb, c0, c1, c2⟩ := RT.at ((unhide H1).below hS.bel) hx
              obtain ⟨bt1, xn1, xs1⟩ := x
              simp only at c0 c1 c2 hxs
              have hsm := small (unhide Z1) i (by omega)
              have HLy := hide (lay_in bt1 xn1 xs1 hS.a2 hxin.1 hxs hsm)
              replace hS := hide hS
              go_wp2_with fail
              refine (unhide HLy).mono ?_
              rintro r X1 ⟨rfl, vm, hw', k', o'⟩
              obtain ⟨T2, hT1⟩ : ∃ T1, wItm (wAll z1 i) (bt1, xn1, xs1) = T1 := ⟨_, rfl⟩
              have hS1 := ((unhide hS).swap.lay (s1' := wItm (wAll z1 i) (bt1, xn1, xs1)) hw' k' o')
              have HLa := hide (fun W' (hb : Below X1.heap.size X1 W') => laid_in W' u2 (wAll z1 i).1 (wAll z1 i).2 bt1 xn1 xs1 (hS1.r1.below hb) hxin.1 hxs hsm)
              obtain ⟨b', off', e5, hb', c0, c1, c2⟩ := RT.at ((unhide H1).below hS1.bel) hx
              simp only [Option.some.injEq, Addr.mk.injEq, and_true] at e5
              obtain ⟨rfl, rfl⟩ := e5
              simp only at c0 c1 c2
              have d0 : X1.cell? ⟨q2, 0, none⟩ = some u2 := hS1.b1.cell 0 _ rfl
              have d1 : X1.cell? ⟨q2, 1, none⟩ = some (.int .i64 (wAll z1 i).2) := hS1.b1.cell 1 _ rfl
              have S1 := hide hS1
              have HE1 := hide (show wAll z1 (i + 1) = T2 by rw [wAll_step hx, hT1])
              rw [hT1] at S1 HLa
              generalize he1 : (wAll z1 i).2 = en at d1 HLa
              have HLb : Calls Try.prog 29 #[.agg #[u2, .int .i64 en], .agg #[.bool bt1, .int .i64 xn1, .string xs1]] X1.drew fun r X2 => ∃ a5 n5 c5, r = .returned (.agg #[.slice a5 n5 c5, .int .i64 T2.2]) ∧ X2.cell? ⟨q2, 0, none⟩ = some u2 ∧ X2.cell? ⟨q2, 1, none⟩ = some (.int .i64 en) ∧ X2.frozen? ⟨q2, 0, none⟩ = false ∧ X2.frozen? ⟨q2, 1, none⟩ = false ∧ Hid (LSt w ((X2.setCell ⟨q2, 0, none⟩ (.slice a5 n5 c5)).setCell ⟨q2, 1, none⟩ (.int .i64 T2.2)) w.heap.size p2 q1 q2 vn vm un (.slice a5 n5 c5) T1 T2 T1 T2) := by
                refine (unhide HLa _ (Below.refl _ X1).drew).mono ?_
                rintro r X2 ⟨um, rfl, hrc, hfr, hbl⟩
                obtain ⟨a5, c5, rfl⟩ := RC.form hrc
                have hbl' : Below X1.heap.size X1 X2 := bnext (Below.refl _ X1).drew hbl
                have hbb := (unhide S1).b1.below hbl'
                exact ⟨a5, _, c5, rfl, hbb.cell 0 _ rfl, (hbb.cell 1 _ rfl).trans (by rw [← he1]; rfl), hbb.frozen 0, hbb.frozen 1, hide (((unhide S1).store hbl' hrc hfr).swap)⟩
              replace HLb := hide HLb
              clear he1
              clear hS hS1 hw' k' o' HLy hx hxin hsm hT1 hb hb' HLa
              go_upto_region 15 with fail
              go_cut [64] from 59 to 64 (fun v wx => Hid (∃ um, LSt w wx w.heap.size p2 q1 q2 vn vm un um T1 T2 T1 T2))
              case first =>
                go_region_with (go_at_call 29; refine (unhide HLb).mono ?_; rintro r X2 ⟨a5, n5, c5, rfl, x0, x1, y0, y1, HF⟩)
                all_goals (go_wp2; go_meet)
                all_goals exact ⟨_, unhide HF⟩
              case rest =>
                obtain ⟨um, hS⟩ := unhide hcut
                clear hcut c0 c1 c2 d0 d1 HLb S1
                have hm1 : T1.1.length ≤ 1000000000 := by rw [← unhide HE0]; exact small (unhide Z0) _ (by omega)
                have hm2 : T2.1.length ≤ 1000000000 := by rw [← unhide HE1]; exact small (unhide Z1) _ (by omega)
                have C0 : ∀ W', Below wc.heap.size wc W' → W'.cell? ⟨q1, 0, none⟩ = some un ∧ W'.cell? ⟨q1, 1, none⟩ = some (.int .i64 T1.2) := fun W' hb => ⟨(hS.b1.below hb).cell 0 _ rfl, (hS.b1.below hb).cell 1 _ rfl⟩
                have C1 : ∀ W', Below wc.heap.size wc W' → W'.cell? ⟨q2, 0, none⟩ = some um ∧ W'.cell? ⟨q2, 1, none⟩ = some (.int .i64 T2.2) := fun W' hb => ⟨(hS.b2.below hb).cell 0 _ rfl, (hS.b2.below hb).cell 1 _ rfl⟩
                have HS := hide hS
                replace C0 := hide C0
                replace C1 := hide C1
                clear hS
                go_upto_region 16 with fail
                go_cut [92] from 65 to 92 (fun v wx => v = .bool false ∧ Hid (LSt w wx w.heap.size p2 q1 q2 vn vm un um T1 T2 T1 T2))
                case first =>
                  refine wp_region_any (by kernel_rfl) ?_
                  change wpAny _ _ _ _ _ _ _ (World.drew _)
                  refine region_invB 94 (fun j => 65 + j) ((0, (Value.slice (some { block := b0, off := off0 }) len0 cap0)) :: (1, (Value.slice (some { block := b1, off := off1 }) len1 cap1)) :: (2, undef) :: (3, undef) :: (4, u4) :: (5, (Value.pointer (some { block := w.heap.size, off := 0 }))) :: (6, (Value.pointer (some { block := p2, off := 0 }))) :: (7, (Value.pointer (some { block := q1, off := 0 }))) :: (8, (Value.pointer (some { block := q2, off := 0 }))) :: (9, (Value.int IntKind.i64 ↑i)) :: (10, (Value.slice (some { block := b0, off := off0 }) len0 cap0)) :: (11, (Value.bool false)) :: (12, (Value.bool false)) :: (13, (Value.slice (some { block := b1, off := off1 }) len1 cap1)) :: (14, (Value.bool false)) :: (15, (Value.bool false)) :: (16, undef) :: (17, (Value.agg #[Value.slice none 0 0, Value.int IntKind.i64 0])) :: (18, (Value.pointer (some { block := w.heap.size, off := 0 }))) :: (19, (Value.agg #[Value.slice none 0 0, Value.int IntKind.i64 0])) :: (20, (Value.pointer (some { block := p2, off := 0 }))) :: (21, (Value.int IntKind.i64 ↑i)) :: (22, (Value.slice (some { block := b0, off := off0 }) len0 cap0)) :: (23, (Value.int IntKind.i64 ↑len0)) :: (24, (Value.bool true)) :: (25, (Value.bool true)) :: (26, undef) :: (27, undef) :: (28, undef) :: (29, undef) :: (30, (Value.bool true)) :: (31, u31) :: (32, u32) :: (33, (Value.int IntKind.i64 ↑i)) :: (34, (Value.slice (some { block := b0, off := off0 }) len0 cap0)) :: (35, (Value.int IntKind.i64 ↑len0)) :: (36, (Value.bool true)) :: (37, (Value.pointer (some { block := w.heap.size, off := 0 }))) :: (38, (Value.slice (some { block := b0, off := off0 }) len0 cap0)) :: (39, (Value.int IntKind.i64 ↑i)) :: (40, (Value.pointer (some { block := b0, off := off0 + i * 3 }))) :: (41, (Value.agg #[Value.bool bt0, Value.int IntKind.i64 xn0, Value.string xs0])) :: (42, (Value.tuple #[])) :: (43, u43) :: (44, u44) :: (45, u45) :: (46, u46) :: (47, u47) :: (48, u48) :: (49, (Value.int IntKind.i64 ↑i)) :: (50, (Value.slice (some { block := b1, off := off1 }) len1 cap1)) :: (51, (Value.int IntKind.i64 ↑len1)) :: (52, (Value.bool true)) :: (53, (Value.pointer (some { block := p2, off := 0 }))) :: (54, (Value.slice (some { block := b1, off := off1 }) len1 cap1)) :: (55, (Value.int IntKind.i64 ↑i)) :: (56, (Value.pointer (some { block := b1, off := off1 + i * 3 }))) :: (57, (Value.agg #[Value.bool bt1, Value.int IntKind.i64 xn1, Value.string xs1])) :: (58, (Value.tuple #[])) :: (59, u59) :: (60, u60) :: (61, u61) :: (62, u62) :: (63, u63) :: (64, u64) :: (93, undef) :: [])
                    (fun W => Below wc.heap.size wc W)
                    (valsOf [isV (Value.pointer (some { block := w.heap.size, off := 0 })), (fun W v => RB W v T1.1), isV (.pointer (some ⟨q1, 0, none⟩)), isV un, isV (.bool true), isV (.bool false), isV (.bool false), isV (Value.pointer (some { block := w.heap.size, off := 0 })), isV (.int .i64 T1.2), isV (.pointer (some ⟨q1, 1, none⟩)), isV (.int .i64 T1.2), isV (.bool false), isV (.bool false), isV (.bool false), isV (Value.pointer (some { block := p2, off := 0 })), (fun W v => RB W v T2.1), isV (.pointer (some ⟨q2, 0, none⟩)), isV um, isV (.bool true), isV (.bool false), isV (.bool false), isV (.bool false), isV (Value.pointer (some { block := p2, off := 0 })), isV (.int .i64 T2.2), isV (.pointer (some ⟨q2, 1, none⟩)), isV (.int .i64 T2.2), isV (.bool false), isV (.bool false)])
                    (fun w w' => Below w.heap.size w w') ?fit (fun w1 w2 h hG => h.trans (hG.mono h.size)) (valsOf_stable ?stable) [(6, false), (13, false), (21, false)] ?gs ?gv ?steps ?fin _ _ ?sz rfl ?base ?start
                  case fit => kernel_rfl
                  case sz => rfl
                  case gs => kernel_rfl
                  case gv => intro p hp w v hv; simp only [List.mem_cons, List.not_mem_nil, or_false] at hp; rcases hp with rfl | rfl | rfl <;> exact hv
                  case base => intro p hp; repeat (first | (rcases List.mem_cons.1 hp with rfl | hp; · rfl) | cases hp)
                  case stable => exact Stables.all (by repeat (first | exact .nil | refine .same ?_ | refine .other (fun w w' v _ hv hG => RC.below hv hG) ?_))
                  case start => exact (Below.refl _ _).drew
                  case steps =>
                    refine .cons (fun ρ wz hρ hJ hb hd => by
                      have d0 : ρ (.tmp 5) = (Value.pointer (some { block := w.heap.size, off := 0 })) := hb (5, _) (List.mem_of_getElem? (i := 5) rfl)
                      exact step_move (.tmp 5) rfl ⟨Below.refl _ _, d0⟩) ?_
                    refine .cons (fun ρ wz hρ hJ hb hd => by
                      have d0 : ρ (.tmp 65) = (Value.pointer (some { block := w.heap.size, off := 0 })) := hd 0 _ rfl rfl
                      refine step_func 31 _ _ #[.pointer (some ⟨w.heap.size, 0, none⟩)] hρ rfl (enters_of Try.func31 (by kernel_rfl) rfl) (by simp [d0]) ?_
                      refine (wData_in ((unhide HS).a1.below hJ) (by omega)).mono ?_
                      rintro r W' ⟨v', rfl, ho, hb2⟩
                      exact ⟨_, rfl, hb2, RC.of_owns ho⟩) ?_
                    refine .cons (fun ρ wz hρ hJ hb hd => by
                      have d0 : ρ (.tmp 7) = (Value.pointer (some { block := q1, off := 0 })) := hb (7, _) (List.mem_of_getElem? (i := 7) rfl)
                      exact step_val (v := (.pointer (some ⟨q1, 0, none⟩))) (w' := wz) (by simp [go_sem, execOp, d0, hρ.const]) ⟨Below.refl _ _, rfl⟩) ?_
                    refine .cons (fun ρ wz hρ hJ hb hd => by
                      have d0 : ρ (.tmp 67) = (.pointer (some ⟨q1, 0, none⟩)) := hd 0 _ rfl rfl
                      obtain ⟨x0, x1⟩ := unhide C0 wz hJ
                      exact step_val (v := un) (w' := wz) (by simp [go_sem, execOp, d0, x0, x1]) ⟨Below.refl _ _, rfl⟩) ?_
                    refine .cons (fun ρ wz hρ hJ hb hd => by
                      have d0 : RB wz (ρ (.tmp 66)) T1.1 := hd 0 _ rfl rfl
                      have d1 : ρ (.tmp 68) = un := hd 1 _ rfl rfl
                      refine step_func 30 _ _ #[ρ (.tmp 66), un] hρ rfl (enters_of Try.func30 (by kernel_rfl) rfl) (by simp [d1]) ?_
                      refine (bytes_in T1.1 T1.1 _ _ wz d0 ((unhide HS).r1.below hJ) (by omega) (by omega)).mono ?_
                      rintro r W' ⟨rfl, kk, rfl⟩
                      exact ⟨_, rfl, bdrew (Below.refl _ _) kk, by show _ = _; simp⟩) ?_
                    refine .cons (fun ρ wz hρ hJ hb hd => by
                      have d0 : ρ (.tmp 69) = (.bool true) := hd 0 _ rfl rfl
                      exact step_val (v := (.bool false)) (w' := wz) (by simp [go_sem, execOp, d0, hρ.const]) ⟨Below.refl _ _, rfl⟩) ?_
                    refine .cons (fun ρ wz hρ hJ hb hd => by
                      have d0 : ρ (.tmp 70) = (.bool false) := hd 0 _ rfl rfl
                      exact step_move (.tmp 70) rfl ⟨Below.refl _ _, d0⟩) ?_
                    refine .cons (fun ρ wz hρ hJ hb hd => by
                      have d0 : ρ (.tmp 5) = (Value.pointer (some { block := w.heap.size, off := 0 })) := hb (5, _) (List.mem_of_getElem? (i := 5) rfl)
                      exact step_move (.tmp 5) rfl ⟨Below.refl _ _, d0⟩) ?_
                    refine .cons (fun ρ wz hρ hJ hb hd => by
                      have d0 : ρ (.tmp 72) = (Value.pointer (some { block := w.heap.size, off := 0 })) := hd 0 _ rfl rfl
                      refine step_func 32 _ _ #[.pointer (some ⟨w.heap.size, 0, none⟩)] hρ rfl (enters_of Try.func32 (by kernel_rfl) rfl) (by simp [d0]) ?_
                      refine (wErr_in ((unhide HS).a1.below hJ)).mono ?_
                      rintro r W' ⟨rfl, rfl⟩
                      exact ⟨_, rfl, Below.refl _ _, rfl⟩) ?_
                    refine .cons (fun ρ wz hρ hJ hb hd => by
                      have d0 : ρ (.tmp 7) = (Value.pointer (some { block := q1, off := 0 })) := hb (7, _) (List.mem_of_getElem? (i := 7) rfl)
                      exact step_val (v := (.pointer (some ⟨q1, 1, none⟩))) (w' := wz) (by simp [go_sem, execOp, d0, hρ.const]) ⟨Below.refl _ _, rfl⟩) ?_
                    refine .cons (fun ρ wz hρ hJ hb hd => by
                      have d0 : ρ (.tmp 74) = (.pointer (some ⟨q1, 1, none⟩)) := hd 0 _ rfl rfl
                      obtain ⟨x0, x1⟩ := unhide C0 wz hJ
                      exact step_val (v := (.int .i64 T1.2)) (w' := wz) (by simp [go_sem, execOp, d0, x0, x1]) ⟨Below.refl _ _, rfl⟩) ?_
                    refine .cons (fun ρ wz hρ hJ hb hd => by
                      have d0 : ρ (.tmp 73) = (.int .i64 T1.2) := hd 0 _ rfl rfl
                      have d1 : ρ (.tmp 75) = (.int .i64 T1.2) := hd 1 _ rfl rfl
                      exact step_val (v := (.bool false)) (w' := wz) (by simp [go_sem, execOp, d0, d1, hρ.const]) ⟨Below.refl _ _, rfl⟩) ?_
                    refine .cons (fun ρ wz hρ hJ hb hd => by
                      have d0 : ρ (.tmp 71) = (.bool false) := hd 0 _ rfl rfl
                      have d1 : ρ (.tmp 76) = (.bool false) := hd 1 _ rfl rfl
                      exact step_val (v := (.bool false)) (w' := wz) (by simp [go_sem, execOp, d0, d1, hρ.const]) ⟨Below.refl _ _, rfl⟩) ?_
                    refine .cons (fun ρ wz hρ hJ hb hd => by
                      have d0 : ρ (.tmp 77) = (.bool false) := hd 0 _ rfl rfl
                      exact step_move (.tmp 77) rfl ⟨Below.refl _ _, d0⟩) ?_
                    refine .cons (fun ρ wz hρ hJ hb hd => by
                      have d0 : ρ (.tmp 6) = (Value.pointer (some { block := p2, off := 0 })) := hb (6, _) (List.mem_of_getElem? (i := 6) rfl)
                      exact step_move (.tmp 6) rfl ⟨Below.refl _ _, d0⟩) ?_
                    refine .cons (fun ρ wz hρ hJ hb hd => by
                      have d0 : ρ (.tmp 79) = (Value.pointer (some { block := p2, off := 0 })) := hd 0 _ rfl rfl
                      refine step_func 31 _ _ #[.pointer (some ⟨p2, 0, none⟩)] hρ rfl (enters_of Try.func31 (by kernel_rfl) rfl) (by simp [d0]) ?_
                      refine (wData_in ((unhide HS).a2.below hJ) (by omega)).mono ?_
                      rintro r W' ⟨v', rfl, ho, hb2⟩
                      exact ⟨_, rfl, hb2, RC.of_owns ho⟩) ?_
                    refine .cons (fun ρ wz hρ hJ hb hd => by
                      have d0 : ρ (.tmp 8) = (Value.pointer (some { block := q2, off := 0 })) := hb (8, _) (List.mem_of_getElem? (i := 8) rfl)
                      exact step_val (v := (.pointer (some ⟨q2, 0, none⟩))) (w' := wz) (by simp [go_sem, execOp, d0, hρ.const]) ⟨Below.refl _ _, rfl⟩) ?_
                    refine .cons (fun ρ wz hρ hJ hb hd => by
                      have d0 : ρ (.tmp 81) = (.pointer (some ⟨q2, 0, none⟩)) := hd 0 _ rfl rfl
                      obtain ⟨x0, x1⟩ := unhide C1 wz hJ
                      exact step_val (v := um) (w' := wz) (by simp [go_sem, execOp, d0, x0, x1]) ⟨Below.refl _ _, rfl⟩) ?_
                    refine .cons (fun ρ wz hρ hJ hb hd => by
                      have d0 : RB wz (ρ (.tmp 80)) T2.1 := hd 0 _ rfl rfl
                      have d1 : ρ (.tmp 82) = um := hd 1 _ rfl rfl
                      refine step_func 30 _ _ #[ρ (.tmp 80), um] hρ rfl (enters_of Try.func30 (by kernel_rfl) rfl) (by simp [d1]) ?_
                      refine (bytes_in T2.1 T2.1 _ _ wz d0 ((unhide HS).r2.below hJ) (by omega) (by omega)).mono ?_
                      rintro r W' ⟨rfl, kk, rfl⟩
                      exact ⟨_, rfl, bdrew (Below.refl _ _) kk, by show _ = _; simp⟩) ?_
                    refine .cons (fun ρ wz hρ hJ hb hd => by
                      have d0 : ρ (.tmp 83) = (.bool true) := hd 0 _ rfl rfl
                      exact step_val (v := (.bool false)) (w' := wz) (by simp [go_sem, execOp, d0, hρ.const]) ⟨Below.refl _ _, rfl⟩) ?_
                    refine .cons (fun ρ wz hρ hJ hb hd => by
                      have d0 : ρ (.tmp 78) = (.bool false) := hd 0 _ rfl rfl
                      have d1 : ρ (.tmp 84) = (.bool false) := hd 1 _ rfl rfl
                      exact step_val (v := (.bool false)) (w' := wz) (by simp [go_sem, execOp, d0, d1, hρ.const]) ⟨Below.refl _ _, rfl⟩) ?_
                    refine .cons (fun ρ wz hρ hJ hb hd => by
                      have d0 : ρ (.tmp 85) = (.bool false) := hd 0 _ rfl rfl
                      exact step_move (.tmp 85) rfl ⟨Below.refl _ _, d0⟩) ?_
                    refine .cons (fun ρ wz hρ hJ hb hd => by
                      have d0 : ρ (.tmp 6) = (Value.pointer (some { block := p2, off := 0 })) := hb (6, _) (List.mem_of_getElem? (i := 6) rfl)
                      exact step_move (.tmp 6) rfl ⟨Below.refl _ _, d0⟩) ?_
                    refine .cons (fun ρ wz hρ hJ hb hd => by
                      have d0 : ρ (.tmp 87) = (Value.pointer (some { block := p2, off := 0 })) := hd 0 _ rfl rfl
                      refine step_func 32 _ _ #[.pointer (some ⟨p2, 0, none⟩)] hρ rfl (enters_of Try.func32 (by kernel_rfl) rfl) (by simp [d0]) ?_
                      refine (wErr_in ((unhide HS).a2.below hJ)).mono ?_
                      rintro r W' ⟨rfl, rfl⟩
                      exact ⟨_, rfl, Below.refl _ _, rfl⟩) ?_
                    refine .cons (fun ρ wz hρ hJ hb hd => by
                      have d0 : ρ (.tmp 8) = (Value.pointer (some { block := q2, off := 0 })) := hb (8, _) (List.mem_of_getElem? (i := 8) rfl)
                      exact step_val (v := (.pointer (some ⟨q2, 1, none⟩))) (w' := wz) (by simp [go_sem, execOp, d0, hρ.const]) ⟨Below.refl _ _, rfl⟩) ?_
                    refine .cons (fun ρ wz hρ hJ hb hd => by
                      have d0 : ρ (.tmp 89) = (.pointer (some ⟨q2, 1, none⟩)) := hd 0 _ rfl rfl
                      obtain ⟨x0, x1⟩ := unhide C1 wz hJ
                      exact step_val (v := (.int .i64 T2.2)) (w' := wz) (by simp [go_sem, execOp, d0, x0, x1]) ⟨Below.refl _ _, rfl⟩) ?_
                    refine .cons (fun ρ wz hρ hJ hb hd => by
                      have d0 : ρ (.tmp 88) = (.int .i64 T2.2) := hd 0 _ rfl rfl
                      have d1 : ρ (.tmp 90) = (.int .i64 T2.2) := hd 1 _ rfl rfl
                      exact step_val (v := (.bool false)) (w' := wz) (by simp [go_sem, execOp, d0, d1, hρ.const]) ⟨Below.refl _ _, rfl⟩) ?_
                    refine .cons (fun ρ wz hρ hJ hb hd => by
                      have d0 : ρ (.tmp 86) = (.bool false) := hd 0 _ rfl rfl
                      have d1 : ρ (.tmp 91) = (.bool false) := hd 1 _ rfl rfl
                      exact step_val (v := (.bool false)) (w' := wz) (by simp [go_sem, execOp, d0, d1, hρ.const]) ⟨Below.refl _ _, rfl⟩) (.nil _)
                  case fin =>
                    intro a W5 hsz2 hds hb hJ hv
                    obtain ⟨X66, hX66⟩ : ∃ x, a.eval (.tmp 66) = x := ⟨_, rfl⟩
                    obtain ⟨X80, hX80⟩ : ∃ x, a.eval (.tmp 80) = x := ⟨_, rfl⟩
                    obtain rfl := frame_of (((0, (Value.slice (some { block := b0, off := off0 }) len0 cap0)) :: (1, (Value.slice (some { block := b1, off := off1 }) len1 cap1)) :: (2, undef) :: (3, undef) :: (4, u4) :: (5, (Value.pointer (some { block := w.heap.size, off := 0 }))) :: (6, (Value.pointer (some { block := p2, off := 0 }))) :: (7, (Value.pointer (some { block := q1, off := 0 }))) :: (8, (Value.pointer (some { block := q2, off := 0 }))) :: (9, (Value.int IntKind.i64 ↑i)) :: (10, (Value.slice (some { block := b0, off := off0 }) len0 cap0)) :: (11, (Value.bool false)) :: (12, (Value.bool false)) :: (13, (Value.slice (some { block := b1, off := off1 }) len1 cap1)) :: (14, (Value.bool false)) :: (15, (Value.bool false)) :: (16, undef) :: (17, (Value.agg #[Value.slice none 0 0, Value.int IntKind.i64 0])) :: (18, (Value.pointer (some { block := w.heap.size, off := 0 }))) :: (19, (Value.agg #[Value.slice none 0 0, Value.int IntKind.i64 0])) :: (20, (Value.pointer (some { block := p2, off := 0 }))) :: (21, (Value.int IntKind.i64 ↑i)) :: (22, (Value.slice (some { block := b0, off := off0 }) len0 cap0)) :: (23, (Value.int IntKind.i64 ↑len0)) :: (24, (Value.bool true)) :: (25, (Value.bool true)) :: (26, undef) :: (27, undef) :: (28, undef) :: (29, undef) :: (30, (Value.bool true)) :: (31, u31) :: (32, u32) :: (33, (Value.int IntKind.i64 ↑i)) :: (34, (Value.slice (some { block := b0, off := off0 }) len0 cap0)) :: (35, (Value.int IntKind.i64 ↑len0)) :: (36, (Value.bool true)) :: (37, (Value.pointer (some { block := w.heap.size, off := 0 }))) :: (38, (Value.slice (some { block := b0, off := off0 }) len0 cap0)) :: (39, (Value.int IntKind.i64 ↑i)) :: (40, (Value.pointer (some { block := b0, off := off0 + i * 3 }))) :: (41, (Value.agg #[Value.bool bt0, Value.int IntKind.i64 xn0, Value.string xs0])) :: (42, (Value.tuple #[])) :: (43, u43) :: (44, u44) :: (45, u45) :: (46, u46) :: (47, u47) :: (48, u48) :: (49, (Value.int IntKind.i64 ↑i)) :: (50, (Value.slice (some { block := b1, off := off1 }) len1 cap1)) :: (51, (Value.int IntKind.i64 ↑len1)) :: (52, (Value.bool true)) :: (53, (Value.pointer (some { block := p2, off := 0 }))) :: (54, (Value.slice (some { block := b1, off := off1 }) len1 cap1)) :: (55, (Value.int IntKind.i64 ↑i)) :: (56, (Value.pointer (some { block := b1, off := off1 + i * 3 }))) :: (57, (Value.agg #[Value.bool bt1, Value.int IntKind.i64 xn1, Value.string xs1])) :: (58, (Value.tuple #[])) :: (59, u59) :: (60, u60) :: (61, u61) :: (62, u62) :: (63, u63) :: (64, u64) :: (93, undef) :: []) ++ ((65, (Value.pointer (some { block := w.heap.size, off := 0 }))) :: (66, X66) :: (67, (.pointer (some ⟨q1, 0, none⟩))) :: (68, un) :: (69, (.bool true)) :: (70, (.bool false)) :: (71, (.bool false)) :: (72, (Value.pointer (some { block := w.heap.size, off := 0 }))) :: (73, (.int .i64 T1.2)) :: (74, (.pointer (some ⟨q1, 1, none⟩))) :: (75, (.int .i64 T1.2)) :: (76, (.bool false)) :: (77, (.bool false)) :: (78, (.bool false)) :: (79, (Value.pointer (some { block := p2, off := 0 }))) :: (80, X80) :: (81, (.pointer (some ⟨q2, 0, none⟩))) :: (82, um) :: (83, (.bool true)) :: (84, (.bool false)) :: (85, (.bool false)) :: (86, (.bool false)) :: (87, (Value.pointer (some { block := p2, off := 0 }))) :: (88, (.int .i64 T2.2)) :: (89, (.pointer (some ⟨q2, 1, none⟩))) :: (90, (.int .i64 T2.2)) :: (91, (.bool false)) :: (92, (.bool false)) :: [])) ((Value.slice (some { block := b0, off := off0 }) len0 cap0) :: (Value.slice (some { block := b1, off := off1 }) len1 cap1) :: undef :: undef :: u4 :: (Value.pointer (some { block := w.heap.size, off := 0 })) :: (Value.pointer (some { block := p2, off := 0 })) :: (Value.pointer (some { block := q1, off := 0 })) :: (Value.pointer (some { block := q2, off := 0 })) :: (Value.int IntKind.i64 ↑i) :: (Value.slice (some { block := b0, off := off0 }) len0 cap0) :: (Value.bool false) :: (Value.bool false) :: (Value.slice (some { block := b1, off := off1 }) len1 cap1) :: (Value.bool false) :: (Value.bool false) :: undef :: (Value.agg #[Value.slice none 0 0, Value.int IntKind.i64 0]) :: (Value.pointer (some { block := w.heap.size, off := 0 })) :: (Value.agg #[Value.slice none 0 0, Value.int IntKind.i64 0]) :: (Value.pointer (some { block := p2, off := 0 })) :: (Value.int IntKind.i64 ↑i) :: (Value.slice (some { block := b0, off := off0 }) len0 cap0) :: (Value.int IntKind.i64 ↑len0) :: (Value.bool true) :: (Value.bool true) :: undef :: undef :: undef :: undef :: (Value.bool true) :: u31 :: u32 :: (Value.int IntKind.i64 ↑i) :: (Value.slice (some { block := b0, off := off0 }) len0 cap0) :: (Value.int IntKind.i64 ↑len0) :: (Value.bool true) :: (Value.pointer (some { block := w.heap.size, off := 0 })) :: (Value.slice (some { block := b0, off := off0 }) len0 cap0) :: (Value.int IntKind.i64 ↑i) :: (Value.pointer (some { block := b0, off := off0 + i * 3 })) :: (Value.agg #[Value.bool bt0, Value.int IntKind.i64 xn0, Value.string xs0]) :: (Value.tuple #[]) :: u43 :: u44 :: u45 :: u46 :: u47 :: u48 :: (Value.int IntKind.i64 ↑i) :: (Value.slice (some { block := b1, off := off1 }) len1 cap1) :: (Value.int IntKind.i64 ↑len1) :: (Value.bool true) :: (Value.pointer (some { block := p2, off := 0 })) :: (Value.slice (some { block := b1, off := off1 }) len1 cap1) :: (Value.int IntKind.i64 ↑i) :: (Value.pointer (some { block := b1, off := off1 + i * 3 })) :: (Value.agg #[Value.bool bt1, Value.int IntKind.i64 xn1, Value.string xs1]) :: (Value.tuple #[]) :: u59 :: u60 :: u61 :: u62 :: u63 :: u64 :: (Value.pointer (some { block := w.heap.size, off := 0 })) :: X66 :: (.pointer (some ⟨q1, 0, none⟩)) :: un :: (.bool true) :: (.bool false) :: (.bool false) :: (Value.pointer (some { block := w.heap.size, off := 0 })) :: (.int .i64 T1.2) :: (.pointer (some ⟨q1, 1, none⟩)) :: (.int .i64 T1.2) :: (.bool false) :: (.bool false) :: (.bool false) :: (Value.pointer (some { block := p2, off := 0 })) :: X80 :: (.pointer (some ⟨q2, 0, none⟩)) :: um :: (.bool true) :: (.bool false) :: (.bool false) :: (.bool false) :: (Value.pointer (some { block := p2, off := 0 })) :: (.int .i64 T2.2) :: (.pointer (some ⟨q2, 1, none⟩)) :: (.int .i64 T2.2) :: (.bool false) :: (.bool false) :: undef :: []) hsz2 hds (fun p hp => by
                      rcases List.mem_append.1 hp with h | h
                      · exact hb p h
                      · simp only [List.mem_cons, List.not_mem_nil, or_false] at h
                        rcases h with rfl | rfl | rfl | rfl | rfl | rfl | rfl | rfl | rfl | rfl | rfl | rfl | rfl | rfl | rfl | rfl | rfl | rfl | rfl | rfl | rfl | rfl | rfl | rfl | rfl | rfl | rfl | rfl
                        · exact hv 0 (by decide)
                        · exact hX66
                        · exact hv 2 (by decide)
                        · exact hv 3 (by decide)
                        · exact hv 4 (by decide)
                        · exact hv 5 (by decide)
                        · exact hv 6 (by decide)
                        · exact hv 7 (by decide)
                        · exact hv 8 (by decide)
                        · exact hv 9 (by decide)
                        · exact hv 10 (by decide)
                        · exact hv 11 (by decide)
                        · exact hv 12 (by decide)
                        · exact hv 13 (by decide)
                        · exact hv 14 (by decide)
                        · exact hX80
                        · exact hv 16 (by decide)
                        · exact hv 17 (by decide)
                        · exact hv 18 (by decide)
                        · exact hv 19 (by decide)
                        · exact hv 20 (by decide)
                        · exact hv 21 (by decide)
                        · exact hv 22 (by decide)
                        · exact hv 23 (by decide)
                        · exact hv 24 (by decide)
                        · exact hv 25 (by decide)
                        · exact hv 26 (by decide)
                        · exact hv 27 (by decide)) rfl
                    clear hb hv hds hsz2 hX66 hX80
                    go_wp2
                    go_meet
                    case rel => exact ⟨rfl, hide ((unhide HS).below hJ)⟩
                case rest =>
                  obtain ⟨rfl, HR⟩ := hcut
                  clear HS C0 C1
                  have HR2 : Hid (∃ v1 v2 u1 u2, LSt w wc w.heap.size p2 q1 q2 v1 v2 u1 u2 (wAll z0 (i + 1)) (wAll z1 (i + 1)) (wAll z0 (i + 1)) (wAll z1 (i + 1))) := by rw [unhide HE0, unhide HE1]; exact ⟨_, _, _, _, unhide HR⟩
                  go_wp2
                  go_roundw
                  case measure => show nm - ((i : Int) + 1).toNat < nm - ((i : Nat) : Int).toNat; omega
                  case rel => exact ⟨i + 1, by go_num, by omega, HR2⟩
            · have hA1 : ¬ (i : Int) < (len1 : Int) := by omega
              have HE1 := hide (show wAll z1 (i + 1) = wAll z1 i from wAll_over (by have := unhide E1; omega))
              generalize wAll z1 i = T2 at hS HE1
              have hm1 : T1.1.length ≤ 1000000000 := by rw [← unhide HE0]; exact small (unhide Z0) _ (by omega)
              have hm2 : T2.1.length ≤ 1000000000 := by rw [← unhide HE1]; exact small (unhide Z1) _ (by omega)
              have C0 : ∀ W', Below wc.heap.size wc W' → W'.cell? ⟨q1, 0, none⟩ = some un ∧ W'.cell? ⟨q1, 1, none⟩ = some (.int .i64 T1.2) := fun W' hb => ⟨(hS.b1.below hb).cell 0 _ rfl, (hS.b1.below hb).cell 1 _ rfl⟩
              have C1 : ∀ W', Below wc.heap.size wc W' → W'.cell? ⟨q2, 0, none⟩ = some u2 ∧ W'.cell? ⟨q2, 1, none⟩ = some (.int .i64 T2.2) := fun W' hb => ⟨(hS.b2.below hb).cell 0 _ rfl, (hS.b2.below hb).cell 1 _ rfl⟩
              have HS := hide hS
              replace C0 := hide C0
              replace C1 := hide C1
              clear hS
              go_upto_region 16 with fail
              go_cut [92] from 65 to 92 (fun v wx => v = .bool false ∧ Hid (LSt w wx w.heap.size p2 q1 q2 vn v2 un u2 T1 T2 T1 T2))
              case first =>
                refine wp_region_any (by kernel_rfl) ?_
                change wpAny _ _ _ _ _ _ _ (World.drew _)
                refine region_invB 94 (fun j => 65 + j) ((0, (Value.slice (some { block := b0, off := off0 }) len0 cap0)) :: (1, (Value.slice a1 len1 cap1)) :: (2, undef) :: (3, undef) :: (4, u4) :: (5, (Value.pointer (some { block := w.heap.size, off := 0 }))) :: (6, (Value.pointer (some { block := p2, off := 0 }))) :: (7, (Value.pointer (some { block := q1, off := 0 }))) :: (8, (Value.pointer (some { block := q2, off := 0 }))) :: (9, (Value.int IntKind.i64 ↑i)) :: (10, (Value.slice (some { block := b0, off := off0 }) len0 cap0)) :: (11, (Value.bool false)) :: (12, (Value.bool false)) :: (13, (Value.slice a1 len1 cap1)) :: (14, (Value.bool false)) :: (15, (Value.bool false)) :: (16, undef) :: (17, (Value.agg #[Value.slice none 0 0, Value.int IntKind.i64 0])) :: (18, (Value.pointer (some { block := w.heap.size, off := 0 }))) :: (19, (Value.agg #[Value.slice none 0 0, Value.int IntKind.i64 0])) :: (20, (Value.pointer (some { block := p2, off := 0 }))) :: (21, (Value.int IntKind.i64 ↑i)) :: (22, (Value.slice (some { block := b0, off := off0 }) len0 cap0)) :: (23, (Value.int IntKind.i64 ↑len0)) :: (24, (Value.bool true)) :: (25, (Value.bool true)) :: (26, undef) :: (27, undef) :: (28, undef) :: (29, undef) :: (30, (Value.bool true)) :: (31, u31) :: (32, u32) :: (33, (Value.int IntKind.i64 ↑i)) :: (34, (Value.slice (some { block := b0, off := off0 }) len0 cap0)) :: (35, (Value.int IntKind.i64 ↑len0)) :: (36, (Value.bool true)) :: (37, (Value.pointer (some { block := w.heap.size, off := 0 }))) :: (38, (Value.slice (some { block := b0, off := off0 }) len0 cap0)) :: (39, (Value.int IntKind.i64 ↑i)) :: (40, (Value.pointer (some { block := b0, off := off0 + i * 3 }))) :: (41, (Value.agg #[Value.bool bt0, Value.int IntKind.i64 xn0, Value.string xs0])) :: (42, (Value.tuple #[])) :: (43, u43) :: (44, u44) :: (45, u45) :: (46, u46) :: (47, u47) :: (48, u48) :: (49, (Value.int IntKind.i64 ↑i)) :: (50, (Value.slice a1 len1 cap1)) :: (51, (Value.int IntKind.i64 ↑len1)) :: (52, (Value.bool false)) :: (53, u53) :: (54, u54) :: (55, u55) :: (56, u56) :: (57, u57) :: (58, u58) :: (59, u59) :: (60, u60) :: (61, u61) :: (62, u62) :: (63, u63) :: (64, u64) :: (93, undef) :: [])
                  (fun W => Below wc.heap.size wc W)
                  (valsOf [isV (Value.pointer (some { block := w.heap.size, off := 0 })), (fun W v => RB W v T1.1), isV (.pointer (some ⟨q1, 0, none⟩)), isV un, isV (.bool true), isV (.bool false), isV (.bool false), isV (Value.pointer (some { block := w.heap.size, off := 0 })), isV (.int .i64 T1.2), isV (.pointer (some ⟨q1, 1, none⟩)), isV (.int .i64 T1.2), isV (.bool false), isV (.bool false), isV (.bool false), isV (Value.pointer (some { block := p2, off := 0 })), (fun W v => RB W v T2.1), isV (.pointer (some ⟨q2, 0, none⟩)), isV u2, isV (.bool true), isV (.bool false), isV (.bool false), isV (.bool false), isV (Value.pointer (some { block := p2, off := 0 })), isV (.int .i64 T2.2), isV (.pointer (some ⟨q2, 1, none⟩)), isV (.int .i64 T2.2), isV (.bool false), isV (.bool false)])
                  (fun w w' => Below w.heap.size w w') ?fit (fun w1 w2 h hG => h.trans (hG.mono h.size)) (valsOf_stable ?stable) [(6, false), (13, false), (21, false)] ?gs ?gv ?steps ?fin _ _ ?sz rfl ?base ?start
                case fit => kernel_rfl
                case sz => rfl
                case gs => kernel_rfl
                case gv => intro p hp w v hv; simp only [List.mem_cons, List.not_mem_nil, or_false] at hp; rcases hp with rfl | rfl | rfl <;> exact hv
                case base => intro p hp; repeat (first | (rcases List.mem_cons.1 hp with rfl | hp; · rfl) | cases hp)
                case stable => exact Stables.all (by repeat (first | exact .nil | refine .same ?_ | refine .other (fun w w' v _ hv hG => RC.below hv hG) ?_))
                case start => exact (Below.refl _ _).drew
                case steps =>
                  refine .cons (fun ρ wz hρ hJ hb hd => by
                    have d0 : ρ (.tmp 5) = (Value.pointer (some { block := w.heap.size, off := 0 })) := hb (5, _) (List.mem_of_getElem? (i := 5) rfl)
                    exact step_move (.tmp 5) rfl ⟨Below.refl _ _, d0⟩) ?_
                  refine .cons (fun ρ wz hρ hJ hb hd => by
                    have d0 : ρ (.tmp 65) = (Value.pointer (some { block := w.heap.size, off := 0 })) := hd 0 _ rfl rfl
                    refine step_func 31 _ _ #[.pointer (some ⟨w.heap.size, 0, none⟩)] hρ rfl (enters_of Try.func31 (by kernel_rfl) rfl) (by simp [d0]) ?_
                    refine (wData_in ((unhide HS).a1.below hJ) (by omega)).mono ?_
                    rintro r W' ⟨v', rfl, ho, hb2⟩
                    exact ⟨_, rfl, hb2, RC.of_owns ho⟩) ?_
                  refine .cons (fun ρ wz hρ hJ hb hd => by
                    have d0 : ρ (.tmp 7) = (Value.pointer (some { block := q1, off := 0 })) := hb (7, _) (List.mem_of_getElem? (i := 7) rfl)
                    exact step_val (v := (.pointer (some ⟨q1, 0, none⟩))) (w' := wz) (by simp [go_sem, execOp, d0, hρ.const]) ⟨Below.refl _ _, rfl⟩) ?_
                  refine .cons (fun ρ wz hρ hJ hb hd => by
                    have d0 : ρ (.tmp 67) = (.pointer (some ⟨q1, 0, none⟩)) := hd 0 _ rfl rfl
                    obtain ⟨x0, x1⟩ := unhide C0 wz hJ
                    exact step_val (v := un) (w' := wz) (by simp [go_sem, execOp, d0, x0, x1]) ⟨Below.refl _ _, rfl⟩) ?_
                  refine .cons (fun ρ wz hρ hJ hb hd => by
                    have d0 : RB wz (ρ (.tmp 66)) T1.1 := hd 0 _ rfl rfl
                    have d1 : ρ (.tmp 68) = un := hd 1 _ rfl rfl
                    refine step_func 30 _ _ #[ρ (.tmp 66), un] hρ rfl (enters_of Try.func30 (by kernel_rfl) rfl) (by simp [d1]) ?_
                    refine (bytes_in T1.1 T1.1 _ _ wz d0 ((unhide HS).r1.below hJ) (by omega) (by omega)).mono ?_
                    rintro r W' ⟨rfl, kk, rfl⟩
                    exact ⟨_, rfl, bdrew (Below.refl _ _) kk, by show _ = _; simp⟩) ?_
                  refine .cons (fun ρ wz hρ hJ hb hd => by
                    have d0 : ρ (.tmp 69) = (.bool true) := hd 0 _ rfl rfl
                    exact step_val (v := (.bool false)) (w' := wz) (by simp [go_sem, execOp, d0, hρ.const]) ⟨Below.refl _ _, rfl⟩) ?_
                  refine .cons (fun ρ wz hρ hJ hb hd => by
                    have d0 : ρ (.tmp 70) = (.bool false) := hd 0 _ rfl rfl
                    exact step_move (.tmp 70) rfl ⟨Below.refl _ _, d0⟩) ?_
                  refine .cons (fun ρ wz hρ hJ hb hd => by
                    have d0 : ρ (.tmp 5) = (Value.pointer (some { block := w.heap.size, off := 0 })) := hb (5, _) (List.mem_of_getElem? (i := 5) rfl)
                    exact step_move (.tmp 5) rfl ⟨Below.refl _ _, d0⟩) ?_
                  refine .cons (fun ρ wz hρ hJ hb hd => by
                    have d0 : ρ (.tmp 72) = (Value.pointer (some { block := w.heap.size, off := 0 })) := hd 0 _ rfl rfl
                    refine step_func 32 _ _ #[.pointer (some ⟨w.heap.size, 0, none⟩)] hρ rfl (enters_of Try.func32 (by kernel_rfl) rfl) (by simp [d0]) ?_
                    refine (wErr_in ((unhide HS).a1.below hJ)).mono ?_
                    rintro r W' ⟨rfl, rfl⟩
                    exact ⟨_, rfl, Below.refl _ _, rfl⟩) ?_
                  refine .cons (fun ρ wz hρ hJ hb hd => by
                    have d0 : ρ (.tmp 7) = (Value.pointer (some { block := q1, off := 0 })) := hb (7, _) (List.mem_of_getElem? (i := 7) rfl)
                    exact step_val (v := (.pointer (some ⟨q1, 1, none⟩))) (w' := wz) (by simp [go_sem, execOp, d0, hρ.const]) ⟨Below.refl _ _, rfl⟩) ?_
                  refine .cons (fun ρ wz hρ hJ hb hd => by
                    have d0 : ρ (.tmp 74) = (.pointer (some ⟨q1, 1, none⟩)) := hd 0 _ rfl rfl
                    obtain ⟨x0, x1⟩ := unhide C0 wz hJ
                    exact step_val (v := (.int .i64 T1.2)) (w' := wz) (by simp [go_sem, execOp, d0, x0, x1]) ⟨Below.refl _ _, rfl⟩) ?_
                  refine .cons (fun ρ wz hρ hJ hb hd => by
                    have d0 : ρ (.tmp 73) = (.int .i64 T1.2) := hd 0 _ rfl rfl
                    have d1 : ρ (.tmp 75) = (.int .i64 T1.2) := hd 1 _ rfl rfl
                    exact step_val (v := (.bool false)) (w' := wz) (by simp [go_sem, execOp, d0, d1, hρ.const]) ⟨Below.refl _ _, rfl⟩) ?_
                  refine .cons (fun ρ wz hρ hJ hb hd => by
                    have d0 : ρ (.tmp 71) = (.bool false) := hd 0 _ rfl rfl
                    have d1 : ρ (.tmp 76) = (.bool false) := hd 1 _ rfl rfl
                    exact step_val (v := (.bool false)) (w' := wz) (by simp [go_sem, execOp, d0, d1, hρ.const]) ⟨Below.refl _ _, rfl⟩) ?_
                  refine .cons (fun ρ wz hρ hJ hb hd => by
                    have d0 : ρ (.tmp 77) = (.bool false) := hd 0 _ rfl rfl
                    exact step_move (.tmp 77) rfl ⟨Below.refl _ _, d0⟩) ?_
                  refine .cons (fun ρ wz hρ hJ hb hd => by
                    have d0 : ρ (.tmp 6) = (Value.pointer (some { block := p2, off := 0 })) := hb (6, _) (List.mem_of_getElem? (i := 6) rfl)
                    exact step_move (.tmp 6) rfl ⟨Below.refl _ _, d0⟩) ?_
                  refine .cons (fun ρ wz hρ hJ hb hd => by
                    have d0 : ρ (.tmp 79) = (Value.pointer (some { block := p2, off := 0 })) := hd 0 _ rfl rfl
                    refine step_func 31 _ _ #[.pointer (some ⟨p2, 0, none⟩)] hρ rfl (enters_of Try.func31 (by kernel_rfl) rfl) (by simp [d0]) ?_
                    refine (wData_in ((unhide HS).a2.below hJ) (by omega)).mono ?_
                    rintro r W' ⟨v', rfl, ho, hb2⟩
                    exact ⟨_, rfl, hb2, RC.of_owns ho⟩) ?_
                  refine .cons (fun ρ wz hρ hJ hb hd => by
                    have d0 : ρ (.tmp 8) = (Value.pointer (some { block := q2, off := 0 })) := hb (8, _) (List.mem_of_getElem? (i := 8) rfl)
                    exact step_val (v := (.pointer (some ⟨q2, 0, none⟩))) (w' := wz) (by simp [go_sem, execOp, d0, hρ.const]) ⟨Below.refl _ _, rfl⟩) ?_
                  refine .cons (fun ρ wz hρ hJ hb hd => by
                    have d0 : ρ (.tmp 81) = (.pointer (some ⟨q2, 0, none⟩)) := hd 0 _ rfl rfl
                    obtain ⟨x0, x1⟩ := unhide C1 wz hJ
                    exact step_val (v := u2) (w' := wz) (by simp [go_sem, execOp, d0, x0, x1]) ⟨Below.refl _ _, rfl⟩) ?_
                  refine .cons (fun ρ wz hρ hJ hb hd => by
                    have d0 : RB wz (ρ (.tmp 80)) T2.1 := hd 0 _ rfl rfl
                    have d1 : ρ (.tmp 82) = u2 := hd 1 _ rfl rfl
                    refine step_func 30 _ _ #[ρ (.tmp 80), u2] hρ rfl (enters_of Try.func30 (by kernel_rfl) rfl) (by simp [d1]) ?_
                    refine (bytes_in T2.1 T2.1 _ _ wz d0 ((unhide HS).r2.below hJ) (by omega) (by omega)).mono ?_
                    rintro r W' ⟨rfl, kk, rfl⟩
                    exact ⟨_, rfl, bdrew (Below.refl _ _) kk, by show _ = _; simp⟩) ?_
                  refine .cons (fun ρ wz hρ hJ hb hd => by
                    have d0 : ρ (.tmp 83) = (.bool true) := hd 0 _ rfl rfl
                    exact step_val (v := (.bool false)) (w' := wz) (by simp [go_sem, execOp, d0, hρ.const]) ⟨Below.refl _ _, rfl⟩) ?_
                  refine .cons (fun ρ wz hρ hJ hb hd => by
                    have d0 : ρ (.tmp 78) = (.bool false) := hd 0 _ rfl rfl
                    have d1 : ρ (.tmp 84) = (.bool false) := hd 1 _ rfl rfl
                    exact step_val (v := (.bool false)) (w' := wz) (by simp [go_sem, execOp, d0, d1, hρ.const]) ⟨Below.refl _ _, rfl⟩) ?_
                  refine .cons (fun ρ wz hρ hJ hb hd => by
                    have d0 : ρ (.tmp 85) = (.bool false) := hd 0 _ rfl rfl
                    exact step_move (.tmp 85) rfl ⟨Below.refl _ _, d0⟩) ?_
                  refine .cons (fun ρ wz hρ hJ hb hd => by
                    have d0 : ρ (.tmp 6) = (Value.pointer (some { block := p2, off := 0 })) := hb (6, _) (List.mem_of_getElem? (i := 6) rfl)
                    exact step_move (.tmp 6) rfl ⟨Below.refl _ _, d0⟩) ?_
                  refine .cons (fun ρ wz hρ hJ hb hd => by
                    have d0 : ρ (.tmp 87) = (Value.pointer (some { block := p2, off := 0 })) := hd 0 _ rfl rfl
                    refine step_func 32 _ _ #[.pointer (some ⟨p2, 0, none⟩)] hρ rfl (enters_of Try.func32 (by kernel_rfl) rfl) (by simp [d0]) ?_
                    refine (wErr_in ((unhide HS).a2.below hJ)).mono ?_
                    rintro r W' ⟨rfl, rfl⟩
                    exact ⟨_, rfl, Below.refl _ _, rfl⟩) ?_
                  refine .cons (fun ρ wz hρ hJ hb hd => by
                    have d0 : ρ (.tmp 8) = (Value.pointer (some { block := q2, off := 0 })) := hb (8, _) (List.mem_of_getElem? (i := 8) rfl)
                    exact step_val (v := (.pointer (some ⟨q2, 1, none⟩))) (w' := wz) (by simp [go_sem, execOp, d0, hρ.const]) ⟨Below.refl _ _, rfl⟩) ?_
                  refine .cons (fun ρ wz hρ hJ hb hd => by
                    have d0 : ρ (.tmp 89) = (.pointer (some ⟨q2, 1, none⟩)) := hd 0 _ rfl rfl
                    obtain ⟨x0, x1⟩ := unhide C1 wz hJ
                    exact step_val (v := (.int .i64 T2.2)) (w' := wz) (by simp [go_sem, execOp, d0, x0, x1]) ⟨Below.refl _ _, rfl⟩) ?_
                  refine .cons (fun ρ wz hρ hJ hb hd => by
                    have d0 : ρ (.tmp 88) = (.int .i64 T2.2) := hd 0 _ rfl rfl
                    have d1 : ρ (.tmp 90) = (.int .i64 T2.2) := hd 1 _ rfl rfl
                    exact step_val (v := (.bool false)) (w' := wz) (by simp [go_sem, execOp, d0, d1, hρ.const]) ⟨Below.refl _ _, rfl⟩) ?_
                  refine .cons (fun ρ wz hρ hJ hb hd => by
                    have d0 : ρ (.tmp 86) = (.bool false) := hd 0 _ rfl rfl
                    have d1 : ρ (.tmp 91) = (.bool false) := hd 1 _ rfl rfl
                    exact step_val (v := (.bool false)) (w' := wz) (by simp [go_sem, execOp, d0, d1, hρ.const]) ⟨Below.refl _ _, rfl⟩) (.nil _)
                case fin =>
                  intro a W5 hsz2 hds hb hJ hv
                  obtain ⟨X66, hX66⟩ : ∃ x, a.eval (.tmp 66) = x := ⟨_, rfl⟩
                  obtain ⟨X80, hX80⟩ : ∃ x, a.eval (.tmp 80) = x := ⟨_, rfl⟩
                  obtain rfl := frame_of (((0, (Value.slice (some { block := b0, off := off0 }) len0 cap0)) :: (1, (Value.slice a1 len1 cap1)) :: (2, undef) :: (3, undef) :: (4, u4) :: (5, (Value.pointer (some { block := w.heap.size, off := 0 }))) :: (6, (Value.pointer (some { block := p2, off := 0 }))) :: (7, (Value.pointer (some { block := q1, off := 0 }))) :: (8, (Value.pointer (some { block := q2, off := 0 }))) :: (9, (Value.int IntKind.i64 ↑i)) :: (10, (Value.slice (some { block := b0, off := off0 }) len0 cap0)) :: (11, (Value.bool false)) :: (12, (Value.bool false)) :: (13, (Value.slice a1 len1 cap1)) :: (14, (Value.bool false)) :: (15, (Value.bool false)) :: (16, undef) :: (17, (Value.agg #[Value.slice none 0 0, Value.int IntKind.i64 0])) :: (18, (Value.pointer (some { block := w.heap.size, off := 0 }))) :: (19, (Value.agg #[Value.slice none 0 0, Value.int IntKind.i64 0])) :: (20, (Value.pointer (some { block := p2, off := 0 }))) :: (21, (Value.int IntKind.i64 ↑i)) :: (22, (Value.slice (some { block := b0, off := off0 }) len0 cap0)) :: (23, (Value.int IntKind.i64 ↑len0)) :: (24, (Value.bool true)) :: (25, (Value.bool true)) :: (26, undef) :: (27, undef) :: (28, undef) :: (29, undef) :: (30, (Value.bool true)) :: (31, u31) :: (32, u32) :: (33, (Value.int IntKind.i64 ↑i)) :: (34, (Value.slice (some { block := b0, off := off0 }) len0 cap0)) :: (35, (Value.int IntKind.i64 ↑len0)) :: (36, (Value.bool true)) :: (37, (Value.pointer (some { block := w.heap.size, off := 0 }))) :: (38, (Value.slice (some { block := b0, off := off0 }) len0 cap0)) :: (39, (Value.int IntKind.i64 ↑i)) :: (40, (Value.pointer (some { block := b0, off := off0 + i * 3 }))) :: (41, (Value.agg #[Value.bool bt0, Value.int IntKind.i64 xn0, Value.string xs0])) :: (42, (Value.tuple #[])) :: (43, u43) :: (44, u44) :: (45, u45) :: (46, u46) :: (47, u47) :: (48, u48) :: (49, (Value.int IntKind.i64 ↑i)) :: (50, (Value.slice a1 len1 cap1)) :: (51, (Value.int IntKind.i64 ↑len1)) :: (52, (Value.bool false)) :: (53, u53) :: (54, u54) :: (55, u55) :: (56, u56) :: (57, u57) :: (58, u58) :: (59, u59) :: (60, u60) :: (61, u61) :: (62, u62) :: (63, u63) :: (64, u64) :: (93, undef) :: []) ++ ((65, (Value.pointer (some { block := w.heap.size, off := 0 }))) :: (66, X66) :: (67, (.pointer (some ⟨q1, 0, none⟩))) :: (68, un) :: (69, (.bool true)) :: (70, (.bool false)) :: (71, (.bool false)) :: (72, (Value.pointer (some { block := w.heap.size, off := 0 }))) :: (73, (.int .i64 T1.2)) :: (74, (.pointer (some ⟨q1, 1, none⟩))) :: (75, (.int .i64 T1.2)) :: (76, (.bool false)) :: (77, (.bool false)) :: (78, (.bool false)) :: (79, (Value.pointer (some { block := p2, off := 0 }))) :: (80, X80) :: (81, (.pointer (some ⟨q2, 0, none⟩))) :: (82, u2) :: (83, (.bool true)) :: (84, (.bool false)) :: (85, (.bool false)) :: (86, (.bool false)) :: (87, (Value.pointer (some { block := p2, off := 0 }))) :: (88, (.int .i64 T2.2)) :: (89, (.pointer (some ⟨q2, 1, none⟩))) :: (90, (.int .i64 T2.2)) :: (91, (.bool false)) :: (92, (.bool false)) :: [])) ((Value.slice (some { block := b0, off := off0 }) len0 cap0) :: (Value.slice a1 len1 cap1) :: undef :: undef :: u4 :: (Value.pointer (some { block := w.heap.size, off := 0 })) :: (Value.pointer (some { block := p2, off := 0 })) :: (Value.pointer (some { block := q1, off := 0 })) :: (Value.pointer (some { block := q2, off := 0 })) :: (Value.int IntKind.i64 ↑i) :: (Value.slice (some { block := b0, off := off0 }) len0 cap0) :: (Value.bool false) :: (Value.bool false) :: (Value.slice a1 len1 cap1) :: (Value.bool false) :: (Value.bool false) :: undef :: (Value.agg #[Value.slice none 0 0, Value.int IntKind.i64 0]) :: (Value.pointer (some { block := w.heap.size, off := 0 })) :: (Value.agg #[Value.slice none 0 0, Value.int IntKind.i64 0]) :: (Value.pointer (some { block := p2, off := 0 })) :: (Value.int IntKind.i64 ↑i) :: (Value.slice (some { block := b0, off := off0 }) len0 cap0) :: (Value.int IntKind.i64 ↑len0) :: (Value.bool true) :: (Value.bool true) :: undef :: undef :: undef :: undef :: (Value.bool true) :: u31 :: u32 :: (Value.int IntKind.i64 ↑i) :: (Value.slice (some { block := b0, off := off0 }) len0 cap0) :: (Value.int IntKind.i64 ↑len0) :: (Value.bool true) :: (Value.pointer (some { block := w.heap.size, off := 0 })) :: (Value.slice (some { block := b0, off := off0 }) len0 cap0) :: (Value.int IntKind.i64 ↑i) :: (Value.pointer (some { block := b0, off := off0 + i * 3 })) :: (Value.agg #[Value.bool bt0, Value.int IntKind.i64 xn0, Value.string xs0]) :: (Value.tuple #[]) :: u43 :: u44 :: u45 :: u46 :: u47 :: u48 :: (Value.int IntKind.i64 ↑i) :: (Value.slice a1 len1 cap1) :: (Value.int IntKind.i64 ↑len1) :: (Value.bool false) :: u53 :: u54 :: u55 :: u56 :: u57 :: u58 :: u59 :: u60 :: u61 :: u62 :: u63 :: u64 :: (Value.pointer (some { block := w.heap.size, off := 0 })) :: X66 :: (.pointer (some ⟨q1, 0, none⟩)) :: un :: (.bool true) :: (.bool false) :: (.bool false) :: (Value.pointer (some { block := w.heap.size, off := 0 })) :: (.int .i64 T1.2) :: (.pointer (some ⟨q1, 1, none⟩)) :: (.int .i64 T1.2) :: (.bool false) :: (.bool false) :: (.bool false) :: (Value.pointer (some { block := p2, off := 0 })) :: X80 :: (.pointer (some ⟨q2, 0, none⟩)) :: u2 :: (.bool true) :: (.bool false) :: (.bool false) :: (.bool false) :: (Value.pointer (some { block := p2, off := 0 })) :: (.int .i64 T2.2) :: (.pointer (some ⟨q2, 1, none⟩)) :: (.int .i64 T2.2) :: (.bool false) :: (.bool false) :: undef :: []) hsz2 hds (fun p hp => by
                    rcases List.mem_append.1 hp with h | h
                    · exact hb p h
                    · simp only [List.mem_cons, List.not_mem_nil, or_false] at h
                      rcases h with rfl | rfl | rfl | rfl | rfl | rfl | rfl | rfl | rfl | rfl | rfl | rfl | rfl | rfl | rfl | rfl | rfl | rfl | rfl | rfl | rfl | rfl | rfl | rfl | rfl | rfl | rfl | rfl
                      · exact hv 0 (by decide)
                      · exact hX66
                      · exact hv 2 (by decide)
                      · exact hv 3 (by decide)
                      · exact hv 4 (by decide)
                      · exact hv 5 (by decide)
                      · exact hv 6 (by decide)
                      · exact hv 7 (by decide)
                      · exact hv 8 (by decide)
                      · exact hv 9 (by decide)
                      · exact hv 10 (by decide)
                      · exact hv 11 (by decide)
                      · exact hv 12 (by decide)
                      · exact hv 13 (by decide)
                      · exact hv 14 (by decide)
                      · exact hX80
                      · exact hv 16 (by decide)
                      · exact hv 17 (by decide)
                      · exact hv 18 (by decide)
                      · exact hv 19 (by decide)
                      · exact hv 20 (by decide)
                      · exact hv 21 (by decide)
                      · exact hv 22 (by decide)
                      · exact hv 23 (by decide)
                      · exact hv 24 (by decide)
                      · exact hv 25 (by decide)
                      · exact hv 26 (by decide)
                      · exact hv 27 (by decide)) rfl
                  clear hb hv hds hsz2 hX66 hX80
                  go_wp2
                  go_meet
                  case rel => exact ⟨rfl, hide ((unhide HS).below hJ)⟩
              case rest =>
                obtain ⟨rfl, HR⟩ := hcut
                clear HS C0 C1
                have HR2 : Hid (∃ v1 v2 u1 u2, LSt w wc w.heap.size p2 q1 q2 v1 v2 u1 u2 (wAll z0 (i + 1)) (wAll z1 (i + 1)) (wAll z0 (i + 1)) (wAll z1 (i + 1))) := by rw [unhide HE0, unhide HE1]; exact ⟨_, _, _, _, unhide HR⟩
                go_wp2
                go_roundw
                case measure => show nm - ((i : Int) + 1).toNat < nm - ((i : Nat) : Int).toNat; omega
                case rel => exact ⟨i + 1, by go_num, by omega, HR2⟩
        · have hA0 : ¬ (i : Int) < (len0 : Int) := by omega
          have HE0 := hide (show wAll z0 (i + 1) = wAll z0 i from wAll_over (by have := unhide E0; omega))
          generalize wAll z0 i = T1 at hS HE0
          by_cases hB : i < len1
          · have hA1 : (i : Int) < (len1 : Int) := by omega
            obtain ⟨x, hx⟩ : ∃ x, z1[i]? = some x := ⟨_, List.getElem?_eq_getElem (by have := unhide E1; omega)⟩
            have hxin := unhide I1 x (List.mem_of_getElem? hx)
            have hxs := unhide Z1 x (List.mem_of_getElem? hx)
            obtain ⟨b1, off1, rfl, hb, c0, c1, c2⟩ := RT.at ((unhide H1).below hS.bel) hx
            obtain ⟨bt1, xn1, xs1⟩ := x
            simp only at c0 c1 c2 hxs
            have hsm := small (unhide Z1) i (by omega)
            have HLy := hide (lay_in bt1 xn1 xs1 hS.a2 hxin.1 hxs hsm)
            replace hS := hide hS
            go_wp2_with fail
            refine (unhide HLy).mono ?_
            rintro r X1 ⟨rfl, vn, hw', k', o'⟩
            obtain ⟨T2, hT1⟩ : ∃ T1, wItm (wAll z1 i) (bt1, xn1, xs1) = T1 := ⟨_, rfl⟩
            have hS1 := ((unhide hS).swap.lay (s1' := wItm (wAll z1 i) (bt1, xn1, xs1)) hw' k' o')
            have HLa := hide (fun W' (hb : Below X1.heap.size X1 W') => laid_in W' u2 (wAll z1 i).1 (wAll z1 i).2 bt1 xn1 xs1 (hS1.r1.below hb) hxin.1 hxs hsm)
            obtain ⟨b', off', e5, hb', c0, c1, c2⟩ := RT.at ((unhide H1).below hS1.bel) hx
            simp only [Option.some.injEq, Addr.mk.injEq, and_true] at e5
            obtain ⟨rfl, rfl⟩ := e5
            simp only at c0 c1 c2
            have d0 : X1.cell? ⟨q2, 0, none⟩ = some u2 := hS1.b1.cell 0 _ rfl
            have d1 : X1.cell? ⟨q2, 1, none⟩ = some (.int .i64 (wAll z1 i).2) := hS1.b1.cell 1 _ rfl
            have S1 := hide hS1
            have HE1 := hide (show wAll z1 (i + 1) = T2 by rw [wAll_step hx, hT1])
            rw [hT1] at S1 HLa
            generalize he1 : (wAll z1 i).2 = en at d1 HLa
            have HLb : Calls Try.prog 29 #[.agg #[u2, .int .i64 en], .agg #[.bool bt1, .int .i64 xn1, .string xs1]] X1.drew fun r X2 => ∃ a5 n5 c5, r = .returned (.agg #[.slice a5 n5 c5, .int .i64 T2.2]) ∧ X2.cell? ⟨q2, 0, none⟩ = some u2 ∧ X2.cell? ⟨q2, 1, none⟩ = some (.int .i64 en) ∧ X2.frozen? ⟨q2, 0, none⟩ = false ∧ X2.frozen? ⟨q2, 1, none⟩ = false ∧ Hid (LSt w ((X2.setCell ⟨q2, 0, none⟩ (.slice a5 n5 c5)).setCell ⟨q2, 1, none⟩ (.int .i64 T2.2)) w.heap.size p2 q1 q2 v1 vn u1 (.slice a5 n5 c5) T1 T2 T1 T2) := by
              refine (unhide HLa _ (Below.refl _ X1).drew).mono ?_
              rintro r X2 ⟨un, rfl, hrc, hfr, hbl⟩
              obtain ⟨a5, c5, rfl⟩ := RC.form hrc
              have hbl' : Below X1.heap.size X1 X2 := bnext (Below.refl _ X1).drew hbl
              have hbb := (unhide S1).b1.below hbl'
              exact ⟨a5, _, c5, rfl, hbb.cell 0 _ rfl, (hbb.cell 1 _ rfl).trans (by rw [← he1]; rfl), hbb.frozen 0, hbb.frozen 1, hide (((unhide S1).store hbl' hrc hfr).swap)⟩
            replace HLb := hide HLb
            clear he1
            clear hS hS1 hw' k' o' HLy hx hxin hsm hT1 hb hb' HLa
            go_upto_region 15 with fail
            go_cut [64] from 59 to 64 (fun v wx => Hid (∃ un, LSt w wx w.heap.size p2 q1 q2 v1 vn u1 un T1 T2 T1 T2))
            case first =>
              go_region_with (go_at_call 29; refine (unhide HLb).mono ?_; rintro r X2 ⟨a5, n5, c5, rfl, x0, x1, y0, y1, HF⟩)
              all_goals (go_wp2; go_meet)
              all_goals exact ⟨_, unhide HF⟩
            case rest =>
              obtain ⟨un, hS⟩ := unhide hcut
              clear hcut c0 c1 c2 d0 d1 HLb S1
              have hm1 : T1.1.length ≤ 1000000000 := by rw [← unhide HE0]; exact small (unhide Z0) _ (by omega)
              have hm2 : T2.1.length ≤ 1000000000 := by rw [← unhide HE1]; exact small (unhide Z1) _ (by omega)
              have C0 : ∀ W', Below wc.heap.size wc W' → W'.cell? ⟨q1, 0, none⟩ = some u1 ∧ W'.cell? ⟨q1, 1, none⟩ = some (.int .i64 T1.2) := fun W' hb => ⟨(hS.b1.below hb).cell 0 _ rfl, (hS.b1.below hb).cell 1 _ rfl⟩
              have C1 : ∀ W', Below wc.heap.size wc W' → W'.cell? ⟨q2, 0, none⟩ = some un ∧ W'.cell? ⟨q2, 1, none⟩ = some (.int .i64 T2.2) := fun W' hb => ⟨(hS.b2.below hb).cell 0 _ rfl, (hS.b2.below hb).cell 1 _ rfl⟩
              have HS := hide hS
              replace C0 := hide C0
              replace C1 := hide C1
              clear hS
              go_upto_region 16 with fail
              go_cut [92] from 65 to 92 (fun v wx => v = .bool false ∧ Hid (LSt w wx w.heap.size p2 q1 q2 v1 vn u1 un T1 T2 T1 T2))
              case first =>
                refine wp_region_any (by kernel_rfl) ?_
                change wpAny _ _ _ _ _ _ _ (World.drew _)
                refine region_invB 94 (fun j => 65 + j) ((0, (Value.slice a0 len0 cap0)) :: (1, (Value.slice (some { block := b1, off := off1 }) len1 cap1)) :: (2, undef) :: (3, undef) :: (4, u4) :: (5, (Value.pointer (some { block := w.heap.size, off := 0 }))) :: (6, (Value.pointer (some { block := p2, off := 0 }))) :: (7, (Value.pointer (some { block := q1, off := 0 }))) :: (8, (Value.pointer (some { block := q2, off := 0 }))) :: (9, (Value.int IntKind.i64 ↑i)) :: (10, (Value.slice a0 len0 cap0)) :: (11, (Value.bool false)) :: (12, (Value.bool false)) :: (13, (Value.slice (some { block := b1, off := off1 }) len1 cap1)) :: (14, (Value.bool false)) :: (15, (Value.bool false)) :: (16, undef) :: (17, (Value.agg #[Value.slice none 0 0, Value.int IntKind.i64 0])) :: (18, (Value.pointer (some { block := w.heap.size, off := 0 }))) :: (19, (Value.agg #[Value.slice none 0 0, Value.int IntKind.i64 0])) :: (20, (Value.pointer (some { block := p2, off := 0 }))) :: (21, (Value.int IntKind.i64 ↑i)) :: (22, (Value.slice a0 len0 cap0)) :: (23, (Value.int IntKind.i64 ↑len0)) :: (24, (Value.bool false)) :: (25, (Value.bool false)) :: (26, (Value.int IntKind.i64 ↑i)) :: (27, (Value.slice (some { block := b1, off := off1 }) len1 cap1)) :: (28, (Value.int IntKind.i64 ↑len1)) :: (29, (Value.bool true)) :: (30, (Value.bool true)) :: (31, u31) :: (32, u32) :: (33, (Value.int IntKind.i64 ↑i)) :: (34, (Value.slice a0 len0 cap0)) :: (35, (Value.int IntKind.i64 ↑len0)) :: (36, (Value.bool false)) :: (37, u37) :: (38, u38) :: (39, u39) :: (40, u40) :: (41, u41) :: (42, u42) :: (43, u43) :: (44, u44) :: (45, u45) :: (46, u46) :: (47, u47) :: (48, u48) :: (49, (Value.int IntKind.i64 ↑i)) :: (50, (Value.slice (some { block := b1, off := off1 }) len1 cap1)) :: (51, (Value.int IntKind.i64 ↑len1)) :: (52, (Value.bool true)) :: (53, (Value.pointer (some { block := p2, off := 0 }))) :: (54, (Value.slice (some { block := b1, off := off1 }) len1 cap1)) :: (55, (Value.int IntKind.i64 ↑i)) :: (56, (Value.pointer (some { block := b1, off := off1 + i * 3 }))) :: (57, (Value.agg #[Value.bool bt1, Value.int IntKind.i64 xn1, Value.string xs1])) :: (58, (Value.tuple #[])) :: (59, u59) :: (60, u60) :: (61, u61) :: (62, u62) :: (63, u63) :: (64, u64) :: (93, undef) :: [])
                  (fun W => Below wc.heap.size wc W)
                  (valsOf [isV (Value.pointer (some { block := w.heap.size, off := 0 })), (fun W v => RB W v T1.1), isV (.pointer (some ⟨q1, 0, none⟩)), isV u1, isV (.bool true), isV (.bool false), isV (.bool false), isV (Value.pointer (some { block := w.heap.size, off := 0 })), isV (.int .i64 T1.2), isV (.pointer (some ⟨q1, 1, none⟩)), isV (.int .i64 T1.2), isV (.bool false), isV (.bool false), isV (.bool false), isV (Value.pointer (some { block := p2, off := 0 })), (fun W v => RB W v T2.1), isV (.pointer (some ⟨q2, 0, none⟩)), isV un, isV (.bool true), isV (.bool false), isV (.bool false), isV (.bool false), isV (Value.pointer (some { block := p2, off := 0 })), isV (.int .i64 T2.2), isV (.pointer (some ⟨q2, 1, none⟩)), isV (.int .i64 T2.2), isV (.bool false), isV (.bool false)])
                  (fun w w' => Below w.heap.size w w') ?fit (fun w1 w2 h hG => h.trans (hG.mono h.size)) (valsOf_stable ?stable) [(6, false), (13, false), (21, false)] ?gs ?gv ?steps ?fin _ _ ?sz rfl ?base ?start
                case fit => kernel_rfl
                case sz => rfl
                case gs => kernel_rfl
                case gv => intro p hp w v hv; simp only [List.mem_cons, List.not_mem_nil, or_false] at hp; rcases hp with rfl | rfl | rfl <;> exact hv
                case base => intro p hp; repeat (first | (rcases List.mem_cons.1 hp with rfl | hp; · rfl) | cases hp)
                case stable => exact Stables.all (by repeat (first | exact .nil | refine .same ?_ | refine .other (fun w w' v _ hv hG => RC.below hv hG) ?_))
                case start => exact (Below.refl _ _).drew
                case steps =>
                  refine .cons (fun ρ wz hρ hJ hb hd => by
                    have d0 : ρ (.tmp 5) = (Value.pointer (some { block := w.heap.size, off := 0 })) := hb (5, _) (List.mem_of_getElem? (i := 5) rfl)
                    exact step_move (.tmp 5) rfl ⟨Below.refl _ _, d0⟩) ?_
                  refine .cons (fun ρ wz hρ hJ hb hd => by
                    have d0 : ρ (.tmp 65) = (Value.pointer (some { block := w.heap.size, off := 0 })) := hd 0 _ rfl rfl
                    refine step_func 31 _ _ #[.pointer (some ⟨w.heap.size, 0, none⟩)] hρ rfl (enters_of Try.func31 (by kernel_rfl) rfl) (by simp [d0]) ?_
                    refine (wData_in ((unhide HS).a1.below hJ) (by omega)).mono ?_
                    rintro r W' ⟨v', rfl, ho, hb2⟩
                    exact ⟨_, rfl, hb2, RC.of_owns ho⟩) ?_
                  refine .cons (fun ρ wz hρ hJ hb hd => by
                    have d0 : ρ (.tmp 7) = (Value.pointer (some { block := q1, off := 0 })) := hb (7, _) (List.mem_of_getElem? (i := 7) rfl)
                    exact step_val (v := (.pointer (some ⟨q1, 0, none⟩))) (w' := wz) (by simp [go_sem, execOp, d0, hρ.const]) ⟨Below.refl _ _, rfl⟩) ?_
                  refine .cons (fun ρ wz hρ hJ hb hd => by
                    have d0 : ρ (.tmp 67) = (.pointer (some ⟨q1, 0, none⟩)) := hd 0 _ rfl rfl
                    obtain ⟨x0, x1⟩ := unhide C0 wz hJ
                    exact step_val (v := u1) (w' := wz) (by simp [go_sem, execOp, d0, x0, x1]) ⟨Below.refl _ _, rfl⟩) ?_
                  refine .cons (fun ρ wz hρ hJ hb hd => by
                    have d0 : RB wz (ρ (.tmp 66)) T1.1 := hd 0 _ rfl rfl
                    have d1 : ρ (.tmp 68) = u1 := hd 1 _ rfl rfl
                    refine step_func 30 _ _ #[ρ (.tmp 66), u1] hρ rfl (enters_of Try.func30 (by kernel_rfl) rfl) (by simp [d1]) ?_
                    refine (bytes_in T1.1 T1.1 _ _ wz d0 ((unhide HS).r1.below hJ) (by omega) (by omega)).mono ?_
                    rintro r W' ⟨rfl, kk, rfl⟩
                    exact ⟨_, rfl, bdrew (Below.refl _ _) kk, by show _ = _; simp⟩) ?_
                  refine .cons (fun ρ wz hρ hJ hb hd => by
                    have d0 : ρ (.tmp 69) = (.bool true) := hd 0 _ rfl rfl
                    exact step_val (v := (.bool false)) (w' := wz) (by simp [go_sem, execOp, d0, hρ.const]) ⟨Below.refl _ _, rfl⟩) ?_
                  refine .cons (fun ρ wz hρ hJ hb hd => by
                    have d0 : ρ (.tmp 70) = (.bool false) := hd 0 _ rfl rfl
                    exact step_move (.tmp 70) rfl ⟨Below.refl _ _, d0⟩) ?_
                  refine .cons (fun ρ wz hρ hJ hb hd => by
                    have d0 : ρ (.tmp 5) = (Value.pointer (some { block := w.heap.size, off := 0 })) := hb (5, _) (List.mem_of_getElem? (i := 5) rfl)
                    exact step_move (.tmp 5) rfl ⟨Below.refl _ _, d0⟩) ?_
                  refine .cons (fun ρ wz hρ hJ hb hd => by
                    have d0 : ρ (.tmp 72) = (Value.pointer (some { block := w.heap.size, off := 0 })) := hd 0 _ rfl rfl
                    refine step_func 32 _ _ #[.pointer (some ⟨w.heap.size, 0, none⟩)] hρ rfl (enters_of Try.func32 (by kernel_rfl) rfl) (by simp [d0]) ?_
                    refine (wErr_in ((unhide HS).a1.below hJ)).mono ?_
                    rintro r W' ⟨rfl, rfl⟩
                    exact ⟨_, rfl, Below.refl _ _, rfl⟩) ?_
                  refine .cons (fun ρ wz hρ hJ hb hd => by
                    have d0 : ρ (.tmp 7) = (Value.pointer (some { block := q1, off := 0 })) := hb (7, _) (List.mem_of_getElem? (i := 7) rfl)
                    exact step_val (v := (.pointer (some ⟨q1, 1, none⟩))) (w' := wz) (by simp [go_sem, execOp, d0, hρ.const]) ⟨Below.refl _ _, rfl⟩) ?_
                  refine .cons (fun ρ wz hρ hJ hb hd => by
                    have d0 : ρ (.tmp 74) = (.pointer (some ⟨q1, 1, none⟩)) := hd 0 _ rfl rfl
                    obtain ⟨x0, x1⟩ := unhide C0 wz hJ
                    exact step_val (v := (.int .i64 T1.2)) (w' := wz) (by simp [go_sem, execOp, d0, x0, x1]) ⟨Below.refl _ _, rfl⟩) ?_
                  refine .cons (fun ρ wz hρ hJ hb hd => by
                    have d0 : ρ (.tmp 73) = (.int .i64 T1.2) := hd 0 _ rfl rfl
                    have d1 : ρ (.tmp 75) = (.int .i64 T1.2) := hd 1 _ rfl rfl
                    exact step_val (v := (.bool false)) (w' := wz) (by simp [go_sem, execOp, d0, d1, hρ.const]) ⟨Below.refl _ _, rfl⟩) ?_
                  refine .cons (fun ρ wz hρ hJ hb hd => by
                    have d0 : ρ (.tmp 71) = (.bool false) := hd 0 _ rfl rfl
                    have d1 : ρ (.tmp 76) = (.bool false) := hd 1 _ rfl rfl
                    exact step_val (v := (.bool false)) (w' := wz) (by simp [go_sem, execOp, d0, d1, hρ.const]) ⟨Below.refl _ _, rfl⟩) ?_
                  refine .cons (fun ρ wz hρ hJ hb hd => by
                    have d0 : ρ (.tmp 77) = (.bool false) := hd 0 _ rfl rfl
                    exact step_move (.tmp 77) rfl ⟨Below.refl _ _, d0⟩) ?_
                  refine .cons (fun ρ wz hρ hJ hb hd => by
                    have d0 : ρ (.tmp 6) = (Value.pointer (some { block := p2, off := 0 })) := hb (6, _) (List.mem_of_getElem? (i := 6) rfl)
                    exact step_move (.tmp 6) rfl ⟨Below.refl _ _, d0⟩) ?_
                  refine .cons (fun ρ wz hρ hJ hb hd => by
                    have d0 : ρ (.tmp 79) = (Value.pointer (some { block := p2, off := 0 })) := hd 0 _ rfl rfl
                    refine step_func 31 _ _ #[.pointer (some ⟨p2, 0, none⟩)] hρ rfl (enters_of Try.func31 (by kernel_rfl) rfl) (by simp [d0]) ?_
                    refine (wData_in ((unhide HS).a2.below hJ) (by omega)).mono ?_
                    rintro r W' ⟨v', rfl, ho, hb2⟩
                    exact ⟨_, rfl, hb2, RC.of_owns ho⟩) ?_
                  refine .cons (fun ρ wz hρ hJ hb hd => by
                    have d0 : ρ (.tmp 8) = (Value.pointer (some { block := q2, off := 0 })) := hb (8, _) (List.mem_of_getElem? (i := 8) rfl)
                    exact step_val (v := (.pointer (some ⟨q2, 0, none⟩))) (w' := wz) (by simp [go_sem, execOp, d0, hρ.const]) ⟨Below.refl _ _, rfl⟩) ?_
                  refine .cons (fun ρ wz hρ hJ hb hd => by
                    have d0 : ρ (.tmp 81) = (.pointer (some ⟨q2, 0, none⟩)) := hd 0 _ rfl rfl
                    obtain ⟨x0, x1⟩ := unhide C1 wz hJ
                    exact step_val (v := un) (w' := wz) (by simp [go_sem, execOp, d0, x0, x1]) ⟨Below.refl _ _, rfl⟩) ?_
                  refine .cons (fun ρ wz hρ hJ hb hd => by
                    have d0 : RB wz (ρ (.tmp 80)) T2.1 := hd 0 _ rfl rfl
                    have d1 : ρ (.tmp 82) = un := hd 1 _ rfl rfl
                    refine step_func 30 _ _ #[ρ (.tmp 80), un] hρ rfl (enters_of Try.func30 (by kernel_rfl) rfl) (by simp [d1]) ?_
                    refine (bytes_in T2.1 T2.1 _ _ wz d0 ((unhide HS).r2.below hJ) (by omega) (by omega)).mono ?_
                    rintro r W' ⟨rfl, kk, rfl⟩
                    exact ⟨_, rfl, bdrew (Below.refl _ _) kk, by show _ = _; simp⟩) ?_
                  refine .cons (fun ρ wz hρ hJ hb hd => by
                    have d0 : ρ (.tmp 83) = (.bool true) := hd 0 _ rfl rfl
                    exact step_val (v := (.bool false)) (w' := wz) (by simp [go_sem, execOp, d0, hρ.const]) ⟨Below.refl _ _, rfl⟩) ?_
                  refine .cons (fun ρ wz hρ hJ hb hd => by
                    have d0 : ρ (.tmp 78) = (.bool false) := hd 0 _ rfl rfl
                    have d1 : ρ (.tmp 84) = (.bool false) := hd 1 _ rfl rfl
                    exact step_val (v := (.bool false)) (w' := wz) (by simp [go_sem, execOp, d0, d1, hρ.const]) ⟨Below.refl _ _, rfl⟩) ?_
                  refine .cons (fun ρ wz hρ hJ hb hd => by
                    have d0 : ρ (.tmp 85) = (.bool false) := hd 0 _ rfl rfl
                    exact step_move (.tmp 85) rfl ⟨Below.refl _ _, d0⟩) ?_
                  refine .cons (fun ρ wz hρ hJ hb hd => by
                    have d0 : ρ (.tmp 6) = (Value.pointer (some { block := p2, off := 0 })) := hb (6, _) (List.mem_of_getElem? (i := 6) rfl)
                    exact step_move (.tmp 6) rfl ⟨Below.refl _ _, d0⟩) ?_
                  refine .cons (fun ρ wz hρ hJ hb hd => by
                    have d0 : ρ (.tmp 87) = (Value.pointer (some { block := p2, off := 0 })) := hd 0 _ rfl rfl
                    refine step_func 32 _ _ #[.pointer (some ⟨p2, 0, none⟩)] hρ rfl (enters_of Try.func32 (by kernel_rfl) rfl) (by simp [d0]) ?_
                    refine (wErr_in ((unhide HS).a2.below hJ)).mono ?_
                    rintro r W' ⟨rfl, rfl⟩
                    exact ⟨_, rfl, Below.refl _ _, rfl⟩) ?_
                  refine .cons (fun ρ wz hρ hJ hb hd => by
                    have d0 : ρ (.tmp 8) = (Value.pointer (some { block := q2, off := 0 })) := hb (8, _) (List.mem_of_getElem? (i := 8) rfl)
                    exact step_val (v := (.pointer (some ⟨q2, 1, none⟩))) (w' := wz) (by simp [go_sem, execOp, d0, hρ.const]) ⟨Below.refl _ _, rfl⟩) ?_
                  refine .cons (fun ρ wz hρ hJ hb hd => by
                    have d0 : ρ (.tmp 89) = (.pointer (some ⟨q2, 1, none⟩)) := hd 0 _ rfl rfl
                    obtain ⟨x0, x1⟩ := unhide C1 wz hJ
                    exact step_val (v := (.int .i64 T2.2)) (w' := wz) (by simp [go_sem, execOp, d0, x0, x1]) ⟨Below.refl _ _, rfl⟩) ?_
                  refine .cons (fun ρ wz hρ hJ hb hd => by
                    have d0 : ρ (.tmp 88) = (.int .i64 T2.2) := hd 0 _ rfl rfl
                    have d1 : ρ (.tmp 90) = (.int .i64 T2.2) := hd 1 _ rfl rfl
                    exact step_val (v := (.bool false)) (w' := wz) (by simp [go_sem, execOp, d0, d1, hρ.const]) ⟨Below.refl _ _, rfl⟩) ?_
                  refine .cons (fun ρ wz hρ hJ hb hd => by
                    have d0 : ρ (.tmp 86) = (.bool false) := hd 0 _ rfl rfl
                    have d1 : ρ (.tmp 91) = (.bool false) := hd 1 _ rfl rfl
                    exact step_val (v := (.bool false)) (w' := wz) (by simp [go_sem, execOp, d0, d1, hρ.const]) ⟨Below.refl _ _, rfl⟩) (.nil _)
                case fin =>
                  intro a W5 hsz2 hds hb hJ hv
                  obtain ⟨X66, hX66⟩ : ∃ x, a.eval (.tmp 66) = x := ⟨_, rfl⟩
                  obtain ⟨X80, hX80⟩ : ∃ x, a.eval (.tmp 80) = x := ⟨_, rfl⟩
                  obtain rfl := frame_of (((0, (Value.slice a0 len0 cap0)) :: (1, (Value.slice (some { block := b1, off := off1 }) len1 cap1)) :: (2, undef) :: (3, undef) :: (4, u4) :: (5, (Value.pointer (some { block := w.heap.size, off := 0 }))) :: (6, (Value.pointer (some { block := p2, off := 0 }))) :: (7, (Value.pointer (some { block := q1, off := 0 }))) :: (8, (Value.pointer (some { block := q2, off := 0 }))) :: (9, (Value.int IntKind.i64 ↑i)) :: (10, (Value.slice a0 len0 cap0)) :: (11, (Value.bool false)) :: (12, (Value.bool false)) :: (13, (Value.slice (some { block := b1, off := off1 }) len1 cap1)) :: (14, (Value.bool false)) :: (15, (Value.bool false)) :: (16, undef) :: (17, (Value.agg #[Value.slice none 0 0, Value.int IntKind.i64 0])) :: (18, (Value.pointer (some { block := w.heap.size, off := 0 }))) :: (19, (Value.agg #[Value.slice none 0 0, Value.int IntKind.i64 0])) :: (20, (Value.pointer (some { block := p2, off := 0 }))) :: (21, (Value.int IntKind.i64 ↑i)) :: (22, (Value.slice a0 len0 cap0)) :: (23, (Value.int IntKind.i64 ↑len0)) :: (24, (Value.bool false)) :: (25, (Value.bool false)) :: (26, (Value.int IntKind.i64 ↑i)) :: (27, (Value.slice (some { block := b1, off := off1 }) len1 cap1)) :: (28, (Value.int IntKind.i64 ↑len1)) :: (29, (Value.bool true)) :: (30, (Value.bool true)) :: (31, u31) :: (32, u32) :: (33, (Value.int IntKind.i64 ↑i)) :: (34, (Value.slice a0 len0 cap0)) :: (35, (Value.int IntKind.i64 ↑len0)) :: (36, (Value.bool false)) :: (37, u37) :: (38, u38) :: (39, u39) :: (40, u40) :: (41, u41) :: (42, u42) :: (43, u43) :: (44, u44) :: (45, u45) :: (46, u46) :: (47, u47) :: (48, u48) :: (49, (Value.int IntKind.i64 ↑i)) :: (50, (Value.slice (some { block := b1, off := off1 }) len1 cap1)) :: (51, (Value.int IntKind.i64 ↑len1)) :: (52, (Value.bool true)) :: (53, (Value.pointer (some { block := p2, off := 0 }))) :: (54, (Value.slice (some { block := b1, off := off1 }) len1 cap1)) :: (55, (Value.int IntKind.i64 ↑i)) :: (56, (Value.pointer (some { block := b1, off := off1 + i * 3 }))) :: (57, (Value.agg #[Value.bool bt1, Value.int IntKind.i64 xn1, Value.string xs1])) :: (58, (Value.tuple #[])) :: (59, u59) :: (60, u60) :: (61, u61) :: (62, u62) :: (63, u63) :: (64, u64) :: (93, undef) :: []) ++ ((65, (Value.pointer (some { block := w.heap.size, off := 0 }))) :: (66, X66) :: (67, (.pointer (some ⟨q1, 0, none⟩))) :: (68, u1) :: (69, (.bool true)) :: (70, (.bool false)) :: (71, (.bool false)) :: (72, (Value.pointer (some { block := w.heap.size, off := 0 }))) :: (73, (.int .i64 T1.2)) :: (74, (.pointer (some ⟨q1, 1, none⟩))) :: (75, (.int .i64 T1.2)) :: (76, (.bool false)) :: (77, (.bool false)) :: (78, (.bool false)) :: (79, (Value.pointer (some { block := p2, off := 0 }))) :: (80, X80) :: (81, (.pointer (some ⟨q2, 0, none⟩))) :: (82, un) :: (83, (.bool true)) :: (84, (.bool false)) :: (85, (.bool false)) :: (86, (.bool false)) :: (87, (Value.pointer (some { block := p2, off := 0 }))) :: (88, (.int .i64 T2.2)) :: (89, (.pointer (some ⟨q2, 1, none⟩))) :: (90, (.int .i64 T2.2)) :: (91, (.bool false)) :: (92, (.bool false)) :: [])) ((Value.slice a0 len0 cap0) :: (Value.slice (some { block := b1, off := off1 }) len1 cap1) :: undef :: undef :: u4 :: (Value.pointer (some { block := w.heap.size, off := 0 })) :: (Value.pointer (some { block := p2, off := 0 })) :: (Value.pointer (some { block := q1, off := 0 })) :: (Value.pointer (some { block := q2, off := 0 })) :: (Value.int IntKind.i64 ↑i) :: (Value.slice a0 len0 cap0) :: (Value.bool false) :: (Value.bool false) :: (Value.slice (some { block := b1, off := off1 }) len1 cap1) :: (Value.bool false) :: (Value.bool false) :: undef :: (Value.agg #[Value.slice none 0 0, Value.int IntKind.i64 0]) :: (Value.pointer (some { block := w.heap.size, off := 0 })) :: (Value.agg #[Value.slice none 0 0, Value.int IntKind.i64 0]) :: (Value.pointer (some { block := p2, off := 0 })) :: (Value.int IntKind.i64 ↑i) :: (Value.slice a0 len0 cap0) :: (Value.int IntKind.i64 ↑len0) :: (Value.bool false) :: (Value.bool false) :: (Value.int IntKind.i64 ↑i) :: (Value.slice (some { block := b1, off := off1 }) len1 cap1) :: (Value.int IntKind.i64 ↑len1) :: (Value.bool true) :: (Value.bool true) :: u31 :: u32 :: (Value.int IntKind.i64 ↑i) :: (Value.slice a0 len0 cap0) :: (Value.int IntKind.i64 ↑len0) :: (Value.bool false) :: u37 :: u38 :: u39 :: u40 :: u41 :: u42 :: u43 :: u44 :: u45 :: u46 :: u47 :: u48 :: (Value.int IntKind.i64 ↑i) :: (Value.slice (some { block := b1, off := off1 }) len1 cap1) :: (Value.int IntKind.i64 ↑len1) :: (Value.bool true) :: (Value.pointer (some { block := p2, off := 0 })) :: (Value.slice (some { block := b1, off := off1 }) len1 cap1) :: (Value.int IntKind.i64 ↑i) :: (Value.pointer (some { block := b1, off := off1 + i * 3 })) :: (Value.agg #[Value.bool bt1, Value.int IntKind.i64 xn1, Value.string xs1]) :: (Value.tuple #[]) :: u59 :: u60 :: u61 :: u62 :: u63 :: u64 :: (Value.pointer (some { block := w.heap.size, off := 0 })) :: X66 :: (.pointer (some ⟨q1, 0, none⟩)) :: u1 :: (.bool true) :: (.bool false) :: (.bool false) :: (Value.pointer (some { block := w.heap.size, off := 0 })) :: (.int .i64 T1.2) :: (.pointer (some ⟨q1, 1, none⟩)) :: (.int .i64 T1.2) :: (.bool false) :: (.bool false) :: (.bool false) :: (Value.pointer (some { block := p2, off := 0 })) :: X80 :: (.pointer (some ⟨q2, 0, none⟩)) :: un :: (.bool true) :: (.bool false) :: (.bool false) :: (.bool false) :: (Value.pointer (some { block := p2, off := 0 })) :: (.int .i64 T2.2) :: (.pointer (some ⟨q2, 1, none⟩)) :: (.int .i64 T2.2) :: (.bool false) :: (.bool false) :: undef :: []) hsz2 hds (fun p hp => by
                    rcases List.mem_append.1 hp with h | h
                    · exact hb p h
                    · simp only [List.mem_cons, List.not_mem_nil, or_false] at h
                      rcases h with rfl | rfl | rfl | rfl | rfl | rfl | rfl | rfl | rfl | rfl | rfl | rfl | rfl | rfl | rfl | rfl | rfl | rfl | rfl | rfl | rfl | rfl | rfl | rfl | rfl | rfl | rfl | rfl
                      · exact hv 0 (by decide)
                      · exact hX66
                      · exact hv 2 (by decide)
                      · exact hv 3 (by decide)
                      · exact hv 4 (by decide)
                      · exact hv 5 (by decide)
                      · exact hv 6 (by decide)
                      · exact hv 7 (by decide)
                      · exact hv 8 (by decide)
                      · exact hv 9 (by decide)
                      · exact hv 10 (by decide)
                      · exact hv 11 (by decide)
                      · exact hv 12 (by decide)
                      · exact hv 13 (by decide)
                      · exact hv 14 (by decide)
                      · exact hX80
                      · exact hv 16 (by decide)
                      · exact hv 17 (by decide)
                      · exact hv 18 (by decide)
                      · exact hv 19 (by decide)
                      · exact hv 20 (by decide)
                      · exact hv 21 (by decide)
                      · exact hv 22 (by decide)
                      · exact hv 23 (by decide)
                      · exact hv 24 (by decide)
                      · exact hv 25 (by decide)
                      · exact hv 26 (by decide)
                      · exact hv 27 (by decide)) rfl
                  clear hb hv hds hsz2 hX66 hX80
                  go_wp2
                  go_meet
                  case rel => exact ⟨rfl, hide ((unhide HS).below hJ)⟩
              case rest =>
                obtain ⟨rfl, HR⟩ := hcut
                clear HS C0 C1
                have HR2 : Hid (∃ v1 v2 u1 u2, LSt w wc w.heap.size p2 q1 q2 v1 v2 u1 u2 (wAll z0 (i + 1)) (wAll z1 (i + 1)) (wAll z0 (i + 1)) (wAll z1 (i + 1))) := by rw [unhide HE0, unhide HE1]; exact ⟨_, _, _, _, unhide HR⟩
                go_wp2
                go_roundw
                case measure => show nm - ((i : Int) + 1).toNat < nm - ((i : Nat) : Int).toNat; omega
                case rel => exact ⟨i + 1, by go_num, by omega, HR2⟩
          · have hA1 : ¬ (i : Int) < (len1 : Int) := by omega
            have HB := hide hS.bel
            have HK := hide (known_in wr)
            clear hS
            go_wp2_with fail
            refine (unhide HK).mono ?_
            rintro e X3 ⟨rfl, hb⟩
            go_wp2
            go_ret
            exact ⟨rfl, bnext (unhide HB) hb⟩

theorem own : ownKnob Try.prog.godebug = none := by kernel_rfl
theorem laidOut2 : laidOutB Try.prog = true := by kernel_rfl

set_option maxRecDepth 100000 in
theorem lifted (os : Os) (started : os.Started) (H : Type) (enc : TypeId × Value → H) :
    ReturnsInHanded {} Try.checked os 7 .any (Rows.stampLaysSpec.pre6 enc Try.prog Try.f7 Rows.stampLaysRow.domain false) (Rows.stampLaysSpec.post enc Try.prog Try.f7 false true false false) := by
  refine returnsInHanded_of_change (C := Try.checked) own started (by kernel_rfl) Try.func7
    (ChangeSpec.witness6 (enc := enc) (C := Try.checked) false ⟨#[], #[.slice none 0 0, .slice none 0 0], []⟩ 8 (by kernel_rfl) (by kernel_rfl) (by kernel_rfl) (by kernel_rfl)) ?_
  intro W base args ds gs before hval0 hW hcnd _
  have hval : ∀ (j : Nat) t v, Try.f7.params[j]? = some t → args[j]? = some v → Value.okWide Try.prog W .any base t v := hval0
  have hW' := hW
  obtain ⟨p, q, hA0, hV, rfl, hfz, hnd⟩ := hW
  have hA : DataW.TrodAll enc Try.prog W 0 (fun _ => true) true Try.f7.params.toList args.toList ds p := hA0
  rw [Try.params7] at hA hval
  obtain ⟨v0, vs0, d0, ds0, p0, q0, hargs, rfl, rfl, h0, r0⟩ := trodAll_cons hA
  obtain ⟨v1, vs1, d1, ds1, p1, q1, rfl, rfl, rfl, h1, r1⟩ := trodAll_cons r0
  obtain ⟨rfl, rfl, rfl⟩ := trodAll_nil r1
  obtain rfl : args = #[v0, v1] := by cases args; simp_all
  obtain ⟨rfl, rfl⟩ := trodVars_none hV
  obtain ⟨a0, len0, cap0, rfl⟩ := okWide_slice Try.underlying47 (hval 0 47 v0 rfl rfl)
  have k0 := h0
  have lt0 : ∀ x ∈ p0, x.block < W.heap.size := by obtain ⟨m, hm⟩ := k0; exact DataW.trod_lt m _ _ _ hm
  obtain ⟨z0, w0⟩ : ∃ l : List (Bool × Int × ByteArray), RT W (.slice a0 len0 cap0) l ∧ l.length = len0 ∧ len0 ≤ maxLen ∧ ∀ e ∈ l, itemIn e := by
    obtain ⟨fuel, hf⟩ := h0
    simp only [Value.cells] at hf
    exact open_items hf
  obtain ⟨a1, len1, cap1, rfl⟩ := okWide_slice Try.underlying47 (hval 1 47 v1 rfl rfl)
  have k1 := h1
  have lt1 : ∀ x ∈ p1, x.block < W.heap.size := by obtain ⟨m, hm⟩ := k1; exact DataW.trod_lt m _ _ _ hm
  obtain ⟨z1, w1⟩ : ∃ l : List (Bool × Int × ByteArray), RT W (.slice a1 len1 cap1) l ∧ l.length = len1 ∧ len1 ≤ maxLen ∧ ∀ e ∈ l, itemIn e := by
    obtain ⟨fuel, hf⟩ := h1
    simp only [Value.cells] at hf
    exact open_items hf
  clear hA0 hval0
  refine (walk a0 len0 cap0 z0 a1 len1 cap1 z1 W w0 w1).mono fun e W' ⟨he, bel⟩ => ?_
  subst he
  exact ⟨_, rfl, _, _, _, [], _, [], hW', trodAll_mk1 (shut_bool Try.underlying4 _), (trodAll_cons_mk (Below.trod laidOut2 (by kernel_rfl) (of_decide_eq_true (by kernel_rfl)) k0 bel lt0) (trodAll_cons_mk (Below.trod laidOut2 (by kernel_rfl) (of_decide_eq_true (by kernel_rfl)) k1 bel lt1) trodAll_mk0)), rfl, bel.frame _, fun h => by cases h⟩

theorem over : Rows.stampLaysRow.holds Try.pinned (OpenSpec.ofChange Rows.stampLaysSpec) :=
  OpenClaim.holds_of_wide 7 Try.f7 rfl rfl rfl rfl rfl rfl rfl ⟨rfl, rfl, rfl, rfl, rfl⟩ rfl rfl rfl rfl rfl (by kernel_rfl) Try.func7 (by kernel_rfl)
    (of_decide_eq_true (by kernel_rfl)) (by unfold Func.isWrapper; first | (rw [if_pos (by decide +kernel)]; kernel_rfl) | (rw [if_neg (by decide +kernel)]; exact ⟨rfl, rfl⟩))
    (fun os started H enc _ => lifted os started H enc)

end LStampLays

theorem stampLays_holds : Rows.StampLaysSaid := LStampLays.over

end Go.Proofs.Ytnellneckbilaaa
