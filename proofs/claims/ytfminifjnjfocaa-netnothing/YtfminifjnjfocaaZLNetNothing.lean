/-
  Chapter 20's law NetNothing returns true for every step, and leaves its argument as it was; no condition.
-/
import Derived.Test.YtfminifjnjfocaaRows
import Derived.WalkKit
import Derived.ProofKit
import Derived.OpenShut
import Derived.ShutString
import Derived.ChangeOld
import Derived.Below
import Derived.Test.YtfminifjnjfocaaZNX
set_option linter.unusedVariables false
set_option linter.unusedSimpArgs false
namespace Go.Proofs.Ytfminifjnjfocaa
namespace LNetNothing
open Go.ChangeShapes Go.WideShapes Go.ChangeAt Go.RowKit Go.Lib
open Go.ChangeMaps (open_string shut_string)

open Go.RowKit Go.Lib
theorem nil_cp : cpV zCp (.slice none 0 0) = nilC := rfl
theorem same_nil (w : World) : Calls Try.prog 21 #[nilC, nilC] w fun e W => e = .returned (.bool true) ∧ Below w.heap.size w W := by
  have := same_in zCp zCp none none 0 0 w (RB.nil _ _ _) (RB.nil _ _ _) (by decide) (by decide)
  rw [eqC_self] at this
  exact this
/-- a zero Copy in a box -/
theorem box6 (W : World) {X Y : World} (hX : W.alloc (.cells #[.int .i64 0, .int .i64 0, .int .i64 0, .slice none 0 0, .int .i64 0, .bool false] 44) = X) (hY : (((((X.setCell ⟨W.heap.size, 0, none⟩ (.int .i64 0)).setCell ⟨W.heap.size, 1, none⟩ (.int .i64 0)).setCell ⟨W.heap.size, 2, none⟩ (.int .i64 0)).setCell ⟨W.heap.size, 3, none⟩ (.slice none 0 0)).setCell ⟨W.heap.size, 4, none⟩ (.int .i64 0)).setCell ⟨W.heap.size, 5, none⟩ (.bool false) = Y) : Bx Y W.heap.size 44 #[.int .i64 0, .int .i64 0, .int .i64 0, .slice none 0 0, .int .i64 0, .bool false] ∧ Below W.heap.size W Y := by
  have b1 : Below W.heap.size W X := by rw [← hX]; exact ballc (Below.refl _ _) _
  have bx : Bx X W.heap.size 44 #[.int .i64 0, .int .i64 0, .int .i64 0, .slice none 0 0, .int .i64 0, .bool false] := by rw [← hX]; exact Bx.new _ _ _
  obtain ⟨h1, h2⟩ := set6 bx _ _ _ _ _ _ hY
  exact ⟨h1, h2.below b1 (fun i e => by omega)⟩
set_option maxRecDepth 100000 in
set_option maxHeartbeats 4000000 in
theorem walk (x : Stp) (W : World) (hx : StW W x) : Calls Try.prog 5 #[.agg (stC x)] W fun e W' => e = .returned (.bool true) ∧ Below W.heap.size W W' := by
  obtain ⟨av, cv, ev⟩ := hx.fd
  obtain ⟨X0, hX0⟩ : ∃ X0, W.alloc (.cells (stC x) 32) = X0 := ⟨_, rfl⟩
  have b0 : Below W.heap.size W X0 := by rw [← hX0]; exact ballc (Below.refl _ _) _
  have bx : Bx X0 W.heap.size 32 (stC x) := by rw [← hX0]; exact Bx.new _ _ _
  have hr := hx.rd
  rw [ev] at hr
  obtain ⟨n, hn⟩ : ∃ n, x.dat.length = n := ⟨_, rfl⟩
  have y5 : X0.cell? ⟨W.heap.size, 5, none⟩ = some (.slice av n cv) := by rw [← hn, ← ev]; exact bx.cell 5 x.vd rfl
  have HB0 := hide b0
  unfold stC at hX0
  unfold stC
  by_cases hg : 60000 < n
  · have hg' : (60000 : Int) < (n : Int) := by omega
    have HK := hide (known_in X0)
    rw [ev] at hX0 ⊢
    rw [hn] at hX0 ⊢
    clear bx b0 hx hr hn ev
    go_enter Try.func5, Try.ntmps5
    go_wp2_with fail
    refine (unhide HK).mono ?_
    rintro e W1 ⟨rfl, hb⟩
    have HB := hide (bnext (unhide HB0) hb)
    clear hb HK
    go_wp2
    go_ret
    exact ⟨rfl, unhide HB⟩
  · have hg' : ¬ (60000 : Int) < (n : Int) := by omega
    have ND := hide (fun V => Deliver_nil x.num V)
    have NP := hide (fun V => Drop_nil x.num V)
    have NS := hide (Send_nil x.frm x.to (.slice av n cv) x.at_ X0)
    have CY : Hid (∀ V, Below X0.heap.size X0 V → V.cell? ⟨W.heap.size, 1, none⟩ = some (.int .i64 x.num) ∧ V.cell? ⟨W.heap.size, 4, none⟩ = some (.int .i64 x.at_) ∧ V.cell? ⟨W.heap.size, 5, none⟩ = some (.slice av n cv)) := fun V hV => ⟨cell_below (bx.cell 1 _ rfl) hV, cell_below (bx.cell 4 _ rfl) hV, cell_below y5 hV⟩
    have NA : Hid (∀ V, Below X0.heap.size X0 V → Calls Try.prog 22 #[.pointer none, .int .i64 x.num, .int .i64 x.at_, .slice av n cv] V fun e W => e = .returned (.int .i64 1) ∧ Below V.heap.size V W) := fun V hV => by
      have := Alter_nil (w := V) x.num x.at_ av cv x.dat ((hr.below b0).below hV) hx.ln
      rw [hn] at this
      exact this
    have y1 := bx.cell 1 (.int .i64 x.num) rfl
    have y2 := bx.cell 2 (.int .i64 x.frm) rfl
    have y3 := bx.cell 3 (.int .i64 x.to) rfl
    have y4 := bx.cell 4 (.int .i64 x.at_) rfl
    rw [ev] at hX0 ⊢
    rw [hn] at hX0 ⊢
    unfold nilC at ND NP
    unfold two at NS
    clear bx b0 hx hr hn ev
    go_enter Try.func5, Try.ntmps5
    go_wp2_with fail
    refine (unhide NS).mono ?_
    rintro e W1 ⟨rfl, rfl⟩
    clear NS
    go_wp2_with fail
    refine (unhide ND _).mono ?_
    rintro e W2 ⟨rfl, hb2⟩
    obtain ⟨X2, hX2⟩ : ∃ X, W2.alloc (.cells #[.int .i64 0, .int .i64 0, .int .i64 0, .slice none 0 0, .int .i64 0, .bool false] 44) = X := ⟨_, rfl⟩
    obtain ⟨Y2, hY2⟩ : ∃ Y, (((((X2.setCell ⟨W2.heap.size, 0, none⟩ (.int .i64 0)).setCell ⟨W2.heap.size, 1, none⟩ (.int .i64 0)).setCell ⟨W2.heap.size, 2, none⟩ (.int .i64 0)).setCell ⟨W2.heap.size, 3, none⟩ (.slice none 0 0)).setCell ⟨W2.heap.size, 4, none⟩ (.int .i64 0)).setCell ⟨W2.heap.size, 5, none⟩ (.bool false) = Y := ⟨_, rfl⟩
    obtain ⟨by2, bb2⟩ := box6 W2 hX2 hY2
    have bx2 : Bx X2 W2.heap.size 44 #[.int .i64 0, .int .i64 0, .int .i64 0, .slice none 0 0, .int .i64 0, .bool false] := by rw [← hX2]; exact Bx.new _ _ _
    have z0 := bx2.cell 0 (.int .i64 0) rfl
    have f0 := bx2.frozen 0
    have z1 := bx2.cell 1 (.int .i64 0) rfl
    have f1 := bx2.frozen 1
    have z2 := bx2.cell 2 (.int .i64 0) rfl
    have f2 := bx2.frozen 2
    have z3 := bx2.cell 3 (.slice none 0 0) rfl
    have f3 := bx2.frozen 3
    have z4 := bx2.cell 4 (.int .i64 0) rfl
    have f4 := bx2.frozen 4
    have z5 := bx2.cell 5 (.bool false) rfl
    have f5 := bx2.frozen 5
    have hb3 := bnext hb2 bb2
    obtain ⟨c1, c4, c5⟩ := unhide CY Y2 hb3
    have Hb3 := hide hb3
    have Hby2 := hide by2
    clear ND hb2 by2 bb2 bx2 hb3 y1 y2 y3 y4 y5
    go_wp2_with fail
    refine (unhide NP _).mono ?_
    rintro e W3 ⟨rfl, hb4⟩
    obtain ⟨X3, hX3⟩ : ∃ X, W3.alloc (.cells #[.int .i64 0, .int .i64 0, .int .i64 0, .slice none 0 0, .int .i64 0, .bool false] 44) = X := ⟨_, rfl⟩
    obtain ⟨Y3, hY3⟩ : ∃ Y, (((((X3.setCell ⟨W3.heap.size, 0, none⟩ (.int .i64 0)).setCell ⟨W3.heap.size, 1, none⟩ (.int .i64 0)).setCell ⟨W3.heap.size, 2, none⟩ (.int .i64 0)).setCell ⟨W3.heap.size, 3, none⟩ (.slice none 0 0)).setCell ⟨W3.heap.size, 4, none⟩ (.int .i64 0)).setCell ⟨W3.heap.size, 5, none⟩ (.bool false) = Y := ⟨_, rfl⟩
    obtain ⟨by3, bb3⟩ := box6 W3 hX3 hY3
    have bx3 : Bx X3 W3.heap.size 44 #[.int .i64 0, .int .i64 0, .int .i64 0, .slice none 0 0, .int .i64 0, .bool false] := by rw [← hX3]; exact Bx.new _ _ _
    clear z0 z1 z2 z3 z4 z5 f0 f1 f2 f3 f4 f5
    have z0 := bx3.cell 0 (.int .i64 0) rfl
    have f0 := bx3.frozen 0
    have z1 := bx3.cell 1 (.int .i64 0) rfl
    have f1 := bx3.frozen 1
    have z2 := bx3.cell 2 (.int .i64 0) rfl
    have f2 := bx3.frozen 2
    have z3 := bx3.cell 3 (.slice none 0 0) rfl
    have f3 := bx3.frozen 3
    have z4 := bx3.cell 4 (.int .i64 0) rfl
    have f4 := bx3.frozen 4
    have z5 := bx3.cell 5 (.bool false) rfl
    have f5 := bx3.frozen 5
    have hb5 := bnext (unhide Hb3) (bnext hb4 bb3)
    have by2 := (unhide Hby2).below (bnext hb4 bb3)
    obtain ⟨d1, d4, d5⟩ := unhide CY Y3 hb5
    have ND := hide (Double_nil x.num Y3)
    unfold two at ND
    have Hb5 := hide hb5
    have Hby := hide (And.intro by2 by3)
    clear NP hb4 by3 bb3 bx3 hb5 by2 Hb3 Hby2 c1 c4 c5
    go_wp2_with fail
    refine (unhide ND).mono ?_
    rintro e W4 ⟨rfl, rfl⟩
    clear ND z0 z1 z2 z3 z4 z5 f0 f1 f2 f3 f4 f5
    obtain ⟨by2, by3⟩ := unhide Hby
    have g0 := by2.cell 0 (.int .i64 0) rfl
    have g1 := by2.cell 1 (.int .i64 0) rfl
    have g2 := by2.cell 2 (.int .i64 0) rfl
    have g3 := by2.cell 3 (.slice none 0 0) rfl
    have g4 := by2.cell 4 (.int .i64 0) rfl
    have g5 := by2.cell 5 (.bool false) rfl
    have HS := hide (fun V => same_nil V)
    unfold nilC at HS
    clear by2 by3
    go_wp2_with fail
    refine (unhide HS _).mono ?_
    rintro e V1 ⟨rfl, hb6⟩
    obtain ⟨_, by3⟩ := unhide Hby
    have by3 := by3.below hb6
    have hb7 := bnext (unhide Hb5) hb6
    clear g0 g1 g2 g3 g4 g5
    have g0 := by3.cell 0 (.int .i64 0) rfl
    have g1 := by3.cell 1 (.int .i64 0) rfl
    have g2 := by3.cell 2 (.int .i64 0) rfl
    have g3 := by3.cell 3 (.slice none 0 0) rfl
    have g4 := by3.cell 4 (.int .i64 0) rfl
    have g5 := by3.cell 5 (.bool false) rfl
    have Hb7 := hide hb7
    clear by3 hb6 hb7 Hby Hb5 d1 d4 d5
    go_wp2_with fail
    refine (unhide HS _).mono ?_
    rintro e V2 ⟨rfl, hb8⟩
    have hb9 := bnext (unhide Hb7) hb8
    obtain ⟨c1, c4, c5⟩ := unhide CY V2 hb9
    have NA1 := hide (unhide NA V2 hb9)
    have Hb9 := hide hb9
    clear HS g0 g1 g2 g3 g4 g5 hb8 hb9 Hb7 NA
    go_wp2_with fail
    refine (unhide NA1).mono ?_
    rintro e V3 ⟨rfl, hb10⟩
    have hb11 := bnext (unhide Hb9) hb10
    clear c1 c4 c5
    obtain ⟨c1, c4, c5⟩ := unhide CY V3 hb11
    have NC1 := hide (Cut_nil x.num x.at_ V3)
    have Hb11 := hide hb11
    clear NA1 hb10 hb11 Hb9
    go_wp2_with fail
    refine (unhide NC1).mono ?_
    rintro e V4 ⟨rfl, hb12⟩
    have Hb13 := hide (bnext (unhide Hb11) hb12)
    have NCo := hide (Copies_nil V4)
    clear NC1 hb12 Hb11 c1 c4 c5
    go_wp2_with fail
    refine (unhide NCo).mono ?_
    rintro e V5 ⟨rfl, rfl⟩
    have HK := hide (known_in V4)
    clear NCo
    go_wp2_with fail
    refine (unhide HK).mono ?_
    rintro e V6 ⟨rfl, hb14⟩
    have HB := hide (bnext (unhide HB0) (bnext (unhide Hb13) hb14))
    clear HK hb14 Hb13 CY
    go_wp2
    go_ret
    exact ⟨rfl, unhide HB⟩

theorem own : ownKnob Try.prog.godebug = none := by kernel_rfl
theorem laidOut2 : laidOutB Try.prog = true := by kernel_rfl

set_option maxRecDepth 100000 in
theorem lifted (os : Os) (started : os.Started) (H : Type) (enc : TypeId × Value → H) :
    ReturnsInHanded {} Try.checked os 5 .any (Rows.netNothingSpec.pre6 enc Try.prog Try.f5 Rows.netNothingRow.domain false) (Rows.netNothingSpec.post enc Try.prog Try.f5 false true false false) := by
  refine returnsInHanded_of_change (C := Try.checked) own started (by kernel_rfl) Try.func5
    (ChangeSpec.witness6 (enc := enc) (C := Try.checked) false ⟨#[], #[.agg #[.int .i64 0, .int .i64 0, .int .i64 0, .int .i64 0, .int .i64 0, .slice none 0 0]], []⟩ 8 (by kernel_rfl) (by kernel_rfl) (by kernel_rfl) (by kernel_rfl)) ?_
  intro W base args ds gs before hval0 hW hcnd _
  have hval : ∀ (j : Nat) t v, Try.f5.params[j]? = some t → args[j]? = some v → Value.okWide Try.prog W .any base t v := hval0
  have hW' := hW
  obtain ⟨p, q, hA0, hV, rfl, hfz, hnd⟩ := hW
  have hA : DataW.TrodAll enc Try.prog W 0 (fun _ => true) true Try.f5.params.toList args.toList ds p := hA0
  rw [Try.params5] at hA hval
  obtain ⟨v0, vs0, d0, ds0, p0, q0, hargs, rfl, rfl, h0, r0⟩ := trodAll_cons hA
  obtain ⟨rfl, rfl, rfl⟩ := trodAll_nil r0
  obtain rfl : args = #[v0] := by cases args; simp_all
  obtain ⟨rfl, rfl⟩ := trodVars_none hV
  have k0 := h0
  have lt0 : ∀ x ∈ p0, x.block < W.heap.size := by obtain ⟨m, hm⟩ := k0; exact DataW.trod_lt m _ _ _ hm
  obtain ⟨a0, rfl, w0⟩ := open_step (hval 0 32 v0 rfl rfl) h0
  clear hA0 hval0
  refine (walk a0 W w0).mono fun e W' ⟨he, bel⟩ => ?_
  subst he
  exact ⟨_, rfl, _, _, _, [], _, [], hW', trodAll_mk1 (shut_bool Try.underlying4 _), (trodAll_cons_mk (Below.trod laidOut2 (by kernel_rfl) (of_decide_eq_true (by kernel_rfl)) k0 bel lt0) trodAll_mk0), rfl, bel.frame _, fun h => by cases h⟩

theorem over : Rows.netNothingRow.holds Try.pinned (OpenSpec.ofChange Rows.netNothingSpec) :=
  OpenClaim.holds_of_wide 5 Try.f5 rfl rfl rfl rfl rfl rfl rfl ⟨rfl, rfl, rfl, rfl, rfl⟩ rfl rfl rfl rfl rfl (by kernel_rfl) Try.func5 (by kernel_rfl)
    (of_decide_eq_true (by kernel_rfl)) (by unfold Func.isWrapper; first | (rw [if_pos (by decide +kernel)]; kernel_rfl) | (rw [if_neg (by decide +kernel)]; exact ⟨rfl, rfl⟩))
    (fun os started H enc _ => lifted os started H enc)

end LNetNothing

theorem netNothing_holds : Rows.NetNothingSaid := LNetNothing.over

end Go.Proofs.Ytfminifjnjfocaa
