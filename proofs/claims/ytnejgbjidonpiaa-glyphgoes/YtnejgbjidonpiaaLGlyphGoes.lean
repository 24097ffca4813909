/-
  Chapter 1's law GlyphGoes returns true for every text and every number, and leaves its arguments as they were; no condition.
-/
import Derived.Test.YtnejgbjidonpiaaRows
import Derived.WalkKit
import Derived.ProofKit
import Derived.OpenShut
import Derived.ShutString
import Derived.ChangeOld
import Derived.Below
import Derived.Laws.EntriesVeiled
import Derived.Test.YtnejgbjidonpiaaKnown
import Derived.Test.YtnejgbjidonpiaaTurned
set_option linter.unusedVariables false
set_option linter.unusedSimpArgs false
namespace Go.Proofs.Ytnejgbjidonpiaa
namespace LGlyphGoes
open Go.ChangeShapes Go.WideShapes Go.ChangeAt Go.RowKit Go.Lib
open Go.ChangeMaps (open_string shut_string)

theorem run_equalIn_func_nil {P : Program} (w : World) (d : Nat) (t : TypeId) {x y z} (f : Fn) (bs cs : Array Value) (h : P.underlying t = some (.func x y z)) : (Op.equalIn (d + 1) t (.func f bs cs) .nilFunc).run P w = .ok false w := by
  simp [Op.equalIn, run_underlying h]
theorem run_equal_func_nil {P : Program} (w : World) (t : TypeId) {x y z} (f : Fn) (bs cs : Array Value) (h : P.underlying t = some (.func x y z)) : (Op.equal t (.func f bs cs) .nilFunc).run P w = .ok false w := run_equalIn_func_nil w 9999 t f bs cs h
theorem run_eql_func_nil {P : Program} (w : World) (t : TypeId) {x y z} (f : Fn) (bs cs : Array Value) (h : P.underlying t = some (.func x y z)) : (binOp .eql t (.func f bs cs) .nilFunc).run P w = .ok (.bool false) w := by
  simp only [binOp]
  simp [run_equal_func_nil w t f bs cs h]

theorem own_zero {W : World} {B e n : Nat} {v : Value} {xs : List Value} (h : W.ownsRow B e 4 v n xs) : W.ownsRow 0 e 4 v n xs :=
  ⟨h.1, h.2.elim .inl (fun ⟨g, cap, cur, e1, _, rest⟩ => .inr ⟨g, cap, cur, e1, Nat.zero_le _, rest⟩)⟩

open Go.Shelf in
set_option maxRecDepth 100000 in
set_option maxHeartbeats 4000000 in
theorem walk (a0 : ByteArray) (a1 : Int) (w0 : a0.size ≤ maxLen) (w1 : (Lit.int .i64 a1).wf = true) (w : World) :
    Calls Try.prog 6 #[.string a0, .int .i64 a1] w fun e w' => e = .returned (.bool true) ∧ Below w.heap.size w w' := by
  have hsm := w0
  unfold maxLen at w0
  by_cases hbig : 20000 < a0.size
  · go_enter Try.func6, Try.ntmps6
    go_wp2_with (go_at_call 9; refine (known_in _).mono ?_; rintro e w' ⟨rfl, hB⟩)
    go_ret
    exact ⟨rfl, hB⟩
  · have hL : (allL a0).length ≤ 1000000 := by have := allL_length a0; omega
    go_enter Try.func6, Try.ntmps6
    go_wp2_with fail
    refine (pieces_in a0 (by omega) _).mono ?_
    rintro e W1 ⟨v1, rfl, ho1, hB1⟩
    obtain ⟨ap, cp, rfl⟩ := owns4_form ho1
    have ho1' := own_zero (ho1.alloc (.cells #[.slice ap (allL a0).length cp] 36))
    have Ho1 := hide ho1'
    clear ho1 ho1'
    go_wp2_with fail
    refine (turned_in a0 (allL a0) ap cp _ hL (unhide Ho1)).mono ?_
    rintro e W3 ⟨v3, rfl, ho3, hB3⟩
    obtain ⟨aq, cq, rfl⟩ := owns4_form ho3
    have ho3' := own_zero ho3
    have Ho3 := hide ho3'
    have hB3' := hide hB3
    clear ho3 ho3' hB3
    go_wp2_with fail
    refine (callsIn_wide.1 (all_in Fence.wide 1 trivial rfl _ _)).mono ?_
    rintro e w' ⟨rfl, rfl⟩
    go_wp2_with fail
    refine (back_in _ _).mono ?_
    rintro e w' ⟨rfl, rfl⟩
    have kp : W3.cell? ⟨W1.heap.size, 0, none⟩ = some (.slice ap (allL a0).length cp) := ((unhide hB3').cell (p := ⟨W1.heap.size, 0, none⟩) (by simp)).trans (Boxed.new W1 _ _).cell
    go_wp2_with fail
    have Hh : Hid (Held a0 (((((W3.alloc (.cells #[.slice aq (allL a0).length cq] 36)).alloc (.cells #[.string a0] 9)).alloc (.cells #[.func (.func 41) #[] #[.pointer (some ⟨W3.heap.size + 1, 0, none⟩)]] 40)).alloc (.cells #[.string a0] 9)).alloc (.cells #[.func (.func 42) #[] #[.pointer (some ⟨W3.heap.size + 1 + 1 + 1, 0, none⟩)]] 40))
        (W3.heap.size + 1 + 1 + 1 + 1 + 1) W1.heap.size W3.heap.size (W3.heap.size + 1 + 1) (W3.heap.size + 1 + 1 + 1 + 1) (W3.heap.size + 1) (W3.heap.size + 1 + 1 + 1) ap aq cp cq) := by
      have hs31 := (unhide hB3').size
      simp only [World.size_alloc] at hs31
      have hBa : Below W3.heap.size W3 (((((W3.alloc (.cells #[.slice aq (allL a0).length cq] 36)).alloc (.cells #[.string a0] 9)).alloc (.cells #[.func (.func 41) #[] #[.pointer (some ⟨W3.heap.size + 1, 0, none⟩)]] 40)).alloc (.cells #[.string a0] 9)).alloc (.cells #[.func (.func 42) #[] #[.pointer (some ⟨W3.heap.size + 1 + 1 + 1, 0, none⟩)]] 40)) := (((((Below.refl _ W3).alloc (Nat.le_refl _) _).alloc (by simp) _).alloc (by simp; omega) _).alloc (by simp; omega) _).alloc (by simp; omega) _
      have b0 := Boxed.new W3 36 (.slice aq (allL a0).length cq)
      have b1 := Boxed.new (W3.alloc (.cells #[.slice aq (allL a0).length cq] 36)) 9 (.string a0)
      have b2 := Boxed.new ((W3.alloc (.cells #[.slice aq (allL a0).length cq] 36)).alloc (.cells #[.string a0] 9)) 40 (.func (.func 41) #[] #[.pointer (some ⟨W3.heap.size + 1, 0, none⟩)])
      have b3 := Boxed.new (((W3.alloc (.cells #[.slice aq (allL a0).length cq] 36)).alloc (.cells #[.string a0] 9)).alloc (.cells #[.func (.func 41) #[] #[.pointer (some ⟨W3.heap.size + 1, 0, none⟩)]] 40)) 9 (.string a0)
      have b4 := Boxed.new ((((W3.alloc (.cells #[.slice aq (allL a0).length cq] 36)).alloc (.cells #[.string a0] 9)).alloc (.cells #[.func (.func 41) #[] #[.pointer (some ⟨W3.heap.size + 1, 0, none⟩)]] 40)).alloc (.cells #[.string a0] 9)) 40 (.func (.func 42) #[] #[.pointer (some ⟨W3.heap.size + 1 + 1 + 1, 0, none⟩)])
      simp only [World.size_alloc] at b1 b2 b3 b4
      refine hide ⟨by simp, by omega, by omega, by omega, by omega, by omega, by omega, (hBa.cell (p := ⟨W1.heap.size, 0, none⟩) (by show W1.heap.size < W3.heap.size; omega)).trans kp, ((((b0.alloc _).alloc _).alloc _).alloc _).cell, ((b2.alloc _).alloc _).cell, b4.cell, (((b1.alloc _).alloc _).alloc _).cell, (b3.alloc _).cell, ?_, ?_⟩
      · exact (((((owns4_below (unhide Ho1) (unhide hB3')).alloc _).alloc _).alloc _).alloc _).alloc _
      · exact (((((unhide Ho3).alloc _).alloc _).alloc _).alloc _).alloc _
    have hBw : Below w.heap.size w (((((W3.alloc (.cells #[.slice aq (allL a0).length cq] 36)).alloc (.cells #[.string a0] 9)).alloc (.cells #[.func (.func 41) #[] #[.pointer (some ⟨W3.heap.size + 1, 0, none⟩)]] 40)).alloc (.cells #[.string a0] 9)).alloc (.cells #[.func (.func 42) #[] #[.pointer (some ⟨W3.heap.size + 1 + 1 + 1, 0, none⟩)]] 40)) := by
      have hs1 := hB1.size
      have hs31 := (unhide hB3').size
      simp only [World.size_alloc] at hs31
      exact ((((((hB1.alloc hs1 _).trans ((unhide hB3').mono (by simp; omega))).alloc (by omega) _).alloc (by simp; omega) _).alloc (by simp; omega) _).alloc (by simp; omega) _).alloc (by simp; omega) _
    generalize (((((W3.alloc (.cells #[.slice aq (allL a0).length cq] 36)).alloc (.cells #[.string a0] 9)).alloc (.cells #[.func (.func 41) #[] #[.pointer (some ⟨W3.heap.size + 1, 0, none⟩)]] 40)).alloc (.cells #[.string a0] 9)).alloc (.cells #[.func (.func 42) #[] #[.pointer (some ⟨W3.heap.size + 1 + 1 + 1, 0, none⟩)]] 40)) = W8 at *
    generalize W3.heap.size + 1 + 1 + 1 + 1 = bback at *
    generalize W3.heap.size + 1 + 1 + 1 = s2 at *
    generalize W3.heap.size + 1 + 1 = ball at *
    generalize W3.heap.size + 1 = s1 at *
    generalize W3.heap.size = bq at *
    generalize W1.heap.size = bp at *
    clear kp Ho1 Ho3 hB3' hB1
    have hnf : ∀ f bs cs (w : World), (binOp .eql 40 (.func f bs cs) .nilFunc).run Try.prog w = .ok (.bool false) w := fun f bs cs w => run_eql_func_nil w _ f bs cs Try.underlying40
    have hsz8 : w.heap.size ≤ W8.heap.size := hBw.size
    have kp8 := (unhide Hh).kp
    have kq8 := (unhide Hh).kq
    have ka8 := (unhide Hh).ka
    have kb8 := (unhide Hh).kb
    rw [hnf]
    have Hh := hide ((unhide Hh).later (W := W8) ((unhide Hh).size ▸ Below.refl _ _))
    go_wp2_with fail
    refine ((unhide Hh).goesAll hL _).mono ?_
    rintro e W9 ⟨rfl, hB9⟩
    have hBw9 := hBw.trans (hB9.mono hsz8)
    have hsz9 : w.heap.size ≤ W9.heap.size := hBw9.size
    have H9 := hide ((unhide Hh).later hB9)
    clear Hh hBw hsz8 hB9 kp8 kq8 ka8 kb8
    have Hh := H9
    have hBw := hBw9
    clear H9 hBw9
    have kp9 := (unhide Hh).kp
    have kq9 := (unhide Hh).kq
    have ka9 := (unhide Hh).ka
    have kb9 := (unhide Hh).kb
    go_wp2_with fail
    refine ((unhide Hh).goesAll hL _).mono ?_
    rintro e W10 ⟨rfl, hB10⟩
    have hBw10 := hBw.trans (hB10.mono hsz9)
    have hsz10 : w.heap.size ≤ W10.heap.size := hBw10.size
    have H10 := hide ((unhide Hh).later hB10)
    clear Hh hBw hsz9 hB10 kp9 kq9 ka9 kb9
    have Hh := H10
    have hBw := hBw10
    clear H10 hBw10
    have kp10 := (unhide Hh).kp
    have kq10 := (unhide Hh).kq
    have ka10 := (unhide Hh).ka
    have kb10 := (unhide Hh).kb
    go_wp2_with fail
    refine ((unhide Hh).goesBack hL hsm _).mono ?_
    rintro e W11 ⟨rfl, hB11⟩
    have hBw11 := hBw.trans (hB11.mono hsz10)
    have hsz11 : w.heap.size ≤ W11.heap.size := hBw11.size
    have H11 := hide ((unhide Hh).later hB11)
    clear Hh hBw hsz10 hB11 kp10 kq10 ka10 kb10
    have Hh := H11
    have hBw := hBw11
    clear H11 hBw11
    have kp11 := (unhide Hh).kp
    have kq11 := (unhide Hh).kq
    have ka11 := (unhide Hh).ka
    have kb11 := (unhide Hh).kb
    go_wp2_with fail
    refine ((unhide Hh).goesBack hL hsm _).mono ?_
    rintro e W12 ⟨rfl, hB12⟩
    have hBw12 := hBw.trans (hB12.mono hsz11)
    have hsz12 : w.heap.size ≤ W12.heap.size := hBw12.size
    have H12 := hide ((unhide Hh).later hB12)
    clear Hh hBw hsz11 hB12 kp11 kq11 ka11 kb11
    have Hh := H12
    have hBw := hBw12
    clear H12 hBw12
    have kp12 := (unhide Hh).kp
    have kq12 := (unhide Hh).kq
    have ka12 := (unhide Hh).ka
    have kb12 := (unhide Hh).kb
    have hBn : Below W12.heap.size W12 ((W12.alloc (.cells #[.int .i64 0] 3)).alloc (.cells #[.bool true] 4)) := ((Below.refl _ W12).alloc (Nat.le_refl _) _).alloc (by simp) _
    have ka13 := (hBn.cell (p := ⟨ball, 0, none⟩) (unhide Hh).la).trans ka12
    have b0 := Boxed.new W12 3 (.int .i64 0)
    have b1 := Boxed.new (W12.alloc (.cells #[.int .i64 0] 3)) 4 (.bool true)
    simp only [World.size_alloc] at b1
    have hJ0 : Hid (JL W12.heap.size W12 [] ((W12.alloc (.cells #[.int .i64 0] 3)).alloc (.cells #[.bool true] 4))) := hide ⟨⟨b0.alloc _, b1⟩, hBn⟩
    have HBn := hide hBn
    clear b0 b1 hBn
    go_wp2_with fail
    refine (all1_clo 34 _ s1 a0 (JL W12.heap.size W12) (JLx W12.heap.size W12) _ (JL_abides W12.heap.size _ W12 rfl (by simp; omega)) (enters_of Try.func34 (by kernel_rfl) rfl) (goesLaw1_in a0 hsm W12 W12.heap.size bp bq ball bback s1 s2 ap aq cp cq (unhide Hh) hL) (((unhide HBn).cell (p := ⟨s1, 0, none⟩) (unhide Hh).l1).trans (unhide Hh).k1) (unhide hJ0)).mono ?_
    rintro e W14 ⟨rfl, hfin⟩
    obtain ⟨hok, hB14⟩ : Boxed W14 (W12.heap.size + 1) 4 (.bool true) ∧ Below W12.heap.size W12 W14 := by
      rcases hfin with ⟨⟨_, h⟩, hb⟩ | ⟨pre, _, h, hb⟩ <;> exact ⟨h, hb⟩
    have H14 := hide ((unhide Hh).later hB14)
    have hBw14 := hBw.trans (hB14.mono hsz12)
    have hsz14 : w.heap.size ≤ W14.heap.size := hBw14.size
    clear hfin Hh hBw hB14 kp12 kq12 ka12 kb12 ka13 hJ0 HBn
    have kq14 := (unhide H14).kq
    have kb14 := (unhide H14).kb
    have p14 := hok.cell
    go_wp2_with fail
    refine ((unhide H14).goesBack hL hsm _).mono ?_
    rintro e W15 ⟨rfl, hB15⟩
    go_wp2_with fail
    refine (known_in _).mono ?_
    rintro e W16 ⟨rfl, hB16⟩
    go_wp2_with fail
    go_ret
    exact ⟨rfl, (hBw14.trans (hB15.mono hsz14)).trans (hB16.mono (Nat.le_trans hsz14 hB15.size))⟩

theorem own : ownKnob Try.prog.godebug = none := by kernel_rfl

set_option maxRecDepth 100000 in
theorem lifted (os : Os) (started : os.Started) (H : Type) (enc : TypeId × Value → H) :
    ReturnsInHanded {} Try.checked os 6 .any (Rows.glyphGoesSpec.pre6 enc Try.prog Try.f6 Rows.glyphGoesRow.domain false) (Rows.glyphGoesSpec.post enc Try.prog Try.f6 false true false false) := by
  refine returnsInHanded_of_change (C := Try.checked) own started (by kernel_rfl) Try.func6
    (ChangeSpec.witness6 (enc := enc) (C := Try.checked) false ⟨#[], #[.string ByteArray.empty, .int .i64 0], []⟩ 8 (by kernel_rfl) (by kernel_rfl) (by kernel_rfl) (by kernel_rfl)) ?_
  intro W base args ds gs before hval0 hW hcnd _
  have hval : ∀ (j : Nat) t v, Try.f6.params[j]? = some t → args[j]? = some v → Value.okWide Try.prog W .any base t v := hval0
  have hW' := hW
  obtain ⟨p, q, hA0, hV, rfl, hfz, hnd⟩ := hW
  have hA : DataW.TrodAll enc Try.prog W 0 (fun _ => true) true Try.f6.params.toList args.toList ds p := hA0
  rw [Try.params6] at hA hval
  obtain ⟨v0, vs0, d0, ds0, p0, q0, hargs, rfl, rfl, h0, r0⟩ := trodAll_cons hA
  obtain ⟨v1, vs1, d1, ds1, p1, q1, rfl, rfl, rfl, h1, r1⟩ := trodAll_cons r0
  obtain ⟨rfl, rfl, rfl⟩ := trodAll_nil r1
  obtain rfl : args = #[v0, v1] := by cases args; simp_all
  obtain ⟨rfl, rfl⟩ := trodVars_none hV
  obtain ⟨a0, rfl, rfl, rfl, w0⟩ := open_string Try.underlying9 (hval 0 9 v0 rfl rfl) h0
  obtain ⟨a1, rfl, rfl, rfl, w1⟩ := open_int Try.underlying3 (hval 1 3 v1 rfl rfl) h1
  clear hA0 hval0
  simp only [List.append_nil] at hW'
  refine (walk a0 a1 w0 w1 W).mono fun e W' ⟨he, bel⟩ => ?_
  subst he
  exact ⟨_, rfl, _, _, _, [], _, [], hW', trodAll_mk1 (shut_bool Try.underlying4 _), (trodAll_cons_mk (shut_string Try.underlying9 w0) (trodAll_cons_mk (shut_int Try.underlying3 w1) trodAll_mk0)), rfl, bel.frame _, fun h => by cases h⟩

theorem over : Rows.glyphGoesRow.holds Try.pinned (OpenSpec.ofChange Rows.glyphGoesSpec) :=
  OpenClaim.holds_of_wide 6 Try.f6 rfl rfl rfl rfl rfl rfl rfl ⟨rfl, rfl, rfl, rfl, rfl⟩ rfl rfl rfl rfl rfl (by kernel_rfl) Try.func6 (by kernel_rfl)
    (of_decide_eq_true (by kernel_rfl)) (by unfold Func.isWrapper; first | (rw [if_pos (by decide +kernel)]; kernel_rfl) | (rw [if_neg (by decide +kernel)]; exact ⟨rfl, rfl⟩))
    (fun os started H enc _ => lifted os started H enc)

end LGlyphGoes

theorem glyphGoes_holds : Rows.GlyphGoesSaid := LGlyphGoes.over

end Go.Proofs.Ytnejgbjidonpiaa
