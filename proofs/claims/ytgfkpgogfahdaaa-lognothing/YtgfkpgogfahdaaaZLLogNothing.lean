/-
  Chapter 12's law LogNothing returns true for every operation and every list of Dots, and leaves its arguments as they were; no condition.
-/
import Derived.Test.YtgfkpgogfahdaaaRows
import Derived.WalkKit
import Derived.ProofKit
import Derived.OpenShut
import Derived.ShutString
import Derived.ChangeOld
import Derived.Below
import Derived.Test.YtgfkpgogfahdaaaZLK4
import Derived.Test.YtgfkpgogfahdaaaZQ5
set_option linter.unusedVariables false
set_option linter.unusedSimpArgs false
namespace Go.Proofs.Ytgfkpgogfahdaaa
namespace LLogNothing
open Go.ChangeShapes Go.WideShapes Go.ChangeAt Go.RowKit Go.Lib
open Go.ChangeMaps (open_string shut_string)

theorem IT.lt {P : Nat → Prop} {W : World} {nb : Nat} {os : List Opn} (h : IT P W nb os) : IT (fun i => P i ∧ i < W.heap.size) W nb os := by
  obtain ⟨v, ops, h, e⟩ := h
  exact ⟨v, ops, h.lt, e⟩

set_option maxRecDepth 100000 in
set_option maxHeartbeats 8000000 in
theorem walk (o : Opn) (ad ag : Option Addr) (cd cg : Nat) (a1 : Option Addr) (len1 cap1 : Nat) (l : List (Int × Int)) (w : World) (w0 : RI w (.slice ad o.deps.length cd) o.deps ∧ RR w (.slice ag o.gone.length cg) o.gone ∧ InA o) (w1 : RI w (.slice a1 len1 cap1) l ∧ l.length = len1 ∧ len1 ≤ maxLen ∧ ∀ e ∈ l, idIn e) :
    Calls Try.prog 3 #[opA o (.slice ad o.deps.length cd) (.slice ag o.gone.length cg), .slice a1 len1 cap1] w fun e W => e = .returned (.bool true) ∧ Below w.heap.size w W := by
  obtain ⟨hd, hg, hi⟩ := w0
  obtain ⟨hr, hln, hmx, _⟩ := w1
  subst hln
  unfold maxLen at hmx
  obtain ⟨X, hX⟩ : ∃ X, w.alloc (.cells #[.int .i64 o.ds, .int .i64 o.dq, .slice ad o.deps.length cd, .int .i64 o.kind, .int .i64 o.it, .int .i64 o.is, .int .i64 o.rt, .int .i64 o.rs, .string o.text, .slice ag o.gone.length cg, .int .i64 o.site] 30) = X := ⟨_, rfl⟩
  have x1 : Bx X w.heap.size 30 #[.int .i64 o.ds, .int .i64 o.dq, .slice ad o.deps.length cd, .int .i64 o.kind, .int .i64 o.it, .int .i64 o.is, .int .i64 o.rt, .int .i64 o.rs, .string o.text, .slice ag o.gone.length cg, .int .i64 o.site] := by rw [← hX]; exact Bx.new w _ _
  have bX : Below w.heap.size w X := by rw [← hX]; exact ballc (Below.refl _ _) _
  obtain ⟨Y, hY⟩ : ∃ Y, X.alloc (.cells #[.int .i64 0, .int .i64 o.ds, .int .i64 o.dq, .slice ad o.deps.length cd, .int .i64 o.kind, .int .i64 o.it, .int .i64 o.is, .int .i64 o.rt, .int .i64 o.rs, .string o.text, .slice ag o.gone.length cg, .int .i64 o.site, .slice a1 l.length cap1] 33) = Y := ⟨_, rfl⟩
  have bY : Below X.heap.size X Y := by rw [← hY]; exact ballc (Below.refl _ _) _
  have rY : RC Y (.slice (some ⟨X.heap.size, 0, none⟩) 1 1) [(⟨0, o, l, .slice ad o.deps.length cd, .slice ag o.gone.length cg, .slice a1 l.length cap1⟩ : Stp)].length (flat encS [(⟨0, o, l, .slice ad o.deps.length cd, .slice ag o.gone.length cg, .slice a1 l.length cap1⟩ : Stp)]) := by
    rw [← hY]
    exact RC.lit X 33 #[.int .i64 0, .int .i64 o.ds, .int .i64 o.dq, .slice ad o.deps.length cd, .int .i64 o.kind, .int .i64 o.it, .int .i64 o.is, .int .i64 o.rt, .int .i64 o.rs, .string o.text, .slice ag o.gone.length cg, .int .i64 o.site, .slice a1 l.length cap1] 1
  have HMu := hide (much_in (some ⟨X.heap.size, 0, none⟩) 1 1 _ none 0 0 Y rY rfl (fun s hs => by simp only [List.mem_singleton] at hs; subst hs; exact ⟨⟨_, _, rfl⟩, ⟨_, _, rfl⟩, ⟨_, _, rfl⟩⟩) (by omega) (by omega))
  obtain ⟨MU, hMU⟩ : ∃ m, muchB [(⟨0, o, l, .slice ad o.deps.length cd, .slice ag o.gone.length cg, .slice a1 l.length cap1⟩ : Stp)] 0 = m := ⟨_, rfl⟩
  rw [hMU] at HMu
  have HK := hide (fun W => known_in W)
  have B0 := hide (bnext bX bY)
  have x1Y := x1.below bY
  obtain ⟨p0, p1, p2, p3, p4, p5, p6, p7, p8, p9, p10⟩ := cells_op x1
  have xl := x1.lt
  have HXY := hide x1Y
  unfold opA
  cases MU with
  | true =>
    clear hMU hd hg hi hr rY x1 bX bY x1Y
    go_enter Try.func3, Try.ntmps3
    go_wp2_with fail
    refine (unhide HMu).mono ?_
    rintro r W1 ⟨rfl, hb1⟩
    have B1 := hide (bnext (unhide B0) hb1)
    clear hb1 HMu
    go_wp2_with fail
    refine (unhide HK _).mono ?_
    rintro r W2 ⟨rfl, hb2⟩
    go_wp2
    go_ret
    exact ⟨rfl, bnext (unhide B1) hb2⟩
  | false =>
    have hneq : ∀ (n : Nat) W, (binOp .neq 42 (.func (.func 33) #[] #[.pointer (some ⟨n, 0, none⟩)]) .nilFunc).run Try.prog W = .ok (.bool true) W := fun n W => run_neq_func_nil W _ _ _ _ Try.underlying42
    have HCu := hide (fun W => Cut_nil a1 l.length cap1 W)
    have HBe := hide (fun W => Beyond_nil a1 l.length cap1 W)
    have HAd := hide (fun W => Add_nil o (.slice ad o.deps.length cd) (.slice ag o.gone.length cg) W)
    have HLa := hide (fun W => Lacks_nil W a1 l.length cap1)
    unfold opA at HAd
    clear hMU hd hg hi hr rY x1 bX bY x1Y
    go_enter Try.func3, Try.ntmps3
    go_wp2_with fail
    refine (unhide HMu).mono ?_
    rintro r W1 ⟨rfl, hb1⟩
    have X1 := hide ((unhide HXY).below hb1)
    have B1 := hide (bnext (unhide B0) hb1)
    clear hb1 HMu hX hY HXY p0 p1 p2 p3 p4 p5 p6 p7 p8 p9 p10
    go_wp2_with fail
    refine (unhide HCu _).mono ?_
    rintro r W2 ⟨rfl, rfl⟩
    go_wp2_with fail
    refine (unhide HBe _).mono ?_
    rintro r W3 ⟨rfl, hit, hb3⟩
    have HR := hide (rest_in (IT.lt hit) (fun i hi => hi.2) 3 (by simp))
    have X3 := hide ((unhide X1).below hb3)
    have B3 := hide (bnext (unhide B1) hb3)
    unfold itV at HR ⊢
    clear hit hb3 X1 B1
    go_wp2_with fail
    refine (unhide HR).mono ?_
    rintro r W4 ⟨v4, rfl, hrl, hb4⟩
    obtain ⟨ops4, ho4, -, -, he4⟩ := hrl
    have he0 : ops4 = [] := by simpa using he4
    subst he0
    obtain ⟨a4, c4, rfl⟩ := owns_form ho4
    have X4 := (unhide X3).below hb4
    obtain ⟨q0, q1, q2, q3, q4, q5, q6, q7, q8, q9, q10⟩ := cells_op X4
    have B4 := hide (bnext (unhide B3) hb4)
    have xl4 := X4.lt
    clear HR ho4 he4 hb4 X3 B3 X4
    simp only [List.length_nil]
    go_wp2_with fail
    refine (unhide HAd _).mono ?_
    rintro r W5 ⟨rfl, hb5⟩
    have B5 := hide (bnext (unhide B4) hb5)
    clear hb5 B4 q0 q1 q2 q3 q4 q5 q6 q7 q8 q9 q10
    go_wp2_with fail
    refine (unhide HLa _).mono ?_
    rintro r W6 ⟨rfl, hb6⟩
    have B6 := hide (bnext (unhide B5) hb6)
    clear hb6 B5
    go_wp2_with fail
    refine (Base_nil _).mono ?_
    rintro r W7 ⟨rfl, rfl⟩
    go_wp2_with fail
    refine (Vector_nil _).mono ?_
    rintro r W8 ⟨rfl, rfl⟩
    go_wp2_with fail
    refine (Len_nil _).mono ?_
    rintro r W9 ⟨rfl, rfl⟩
    go_wp2_with fail
    refine (unhide HK _).mono ?_
    rintro r W10 ⟨rfl, hb10⟩
    go_wp2
    go_ret
    exact ⟨rfl, bnext (unhide B6) hb10⟩

theorem own : ownKnob Try.prog.godebug = none := by kernel_rfl
theorem laidOut2 : laidOutB Try.prog = true := by kernel_rfl

set_option maxRecDepth 100000 in
theorem lifted (os : Os) (started : os.Started) (H : Type) (enc : TypeId × Value → H) :
    ReturnsInHanded {} Try.checked os 3 .any (Rows.logNothingSpec.pre6 enc Try.prog Try.f3 Rows.logNothingRow.domain false) (Rows.logNothingSpec.post enc Try.prog Try.f3 false true false false) := by
  refine returnsInHanded_of_change (C := Try.checked) own started (by kernel_rfl) Try.func3
    (ChangeSpec.witness6 (enc := enc) (C := Try.checked) false ⟨#[], #[.agg #[.int .i64 0, .int .i64 0, .slice none 0 0, .int .i64 0, .int .i64 0, .int .i64 0, .int .i64 0, .int .i64 0, .string ByteArray.empty, .slice none 0 0, .int .i64 0], .slice none 0 0], []⟩ 8 (by kernel_rfl) (by kernel_rfl) (by kernel_rfl) (by kernel_rfl)) ?_
  intro W base args ds gs before hval0 hW hcnd _
  have hval : ∀ (j : Nat) t v, Try.f3.params[j]? = some t → args[j]? = some v → Value.okWide Try.prog W .any base t v := hval0
  have hW' := hW
  obtain ⟨p, q, hA0, hV, rfl, hfz, hnd⟩ := hW
  have hA : DataW.TrodAll enc Try.prog W 0 (fun _ => true) true Try.f3.params.toList args.toList ds p := hA0
  rw [Try.params3] at hA hval
  obtain ⟨v0, vs0, d0, ds0, p0, q0, hargs, rfl, rfl, h0, r0⟩ := trodAll_cons hA
  obtain ⟨v1, vs1, d1, ds1, p1, q1, rfl, rfl, rfl, h1, r1⟩ := trodAll_cons r0
  obtain ⟨rfl, rfl, rfl⟩ := trodAll_nil r1
  obtain rfl : args = #[v0, v1] := by cases args; simp_all
  obtain ⟨rfl, rfl⟩ := trodVars_none hV
  have k0 := h0
  have lt0 : ∀ x ∈ p0, x.block < W.heap.size := by obtain ⟨m, hm⟩ := k0; exact DataW.trod_lt m _ _ _ hm
  obtain ⟨o0, ad0, ag0, cd0, cg0, rfl, w0⟩ := open_op (hval 0 30 v0 rfl rfl) h0
  obtain ⟨a1, len1, cap1, rfl⟩ := okWide_slice Try.underlying25 (hval 1 25 v1 rfl rfl)
  have k1 := h1
  have lt1 : ∀ x ∈ p1, x.block < W.heap.size := by obtain ⟨m, hm⟩ := k1; exact DataW.trod_lt m _ _ _ hm
  obtain ⟨z1, w1⟩ : ∃ l : List (Int × Int), RI W (.slice a1 len1 cap1) l ∧ l.length = len1 ∧ len1 ≤ maxLen ∧ ∀ e ∈ l, idIn e := by
    obtain ⟨fuel, hf⟩ := h1
    simp only [Value.cells] at hf
    exact open_dots hf
  clear hA0 hval0
  refine (walk o0 ad0 ag0 cd0 cg0 a1 len1 cap1 z1 W w0 w1).mono fun e W' ⟨he, bel⟩ => ?_
  subst he
  exact ⟨_, rfl, _, _, _, [], _, [], hW', trodAll_mk1 (shut_bool Try.underlying4 _), (trodAll_cons_mk (Below.trod laidOut2 (by kernel_rfl) (of_decide_eq_true (by kernel_rfl)) k0 bel lt0) (trodAll_cons_mk (Below.trod laidOut2 (by kernel_rfl) (of_decide_eq_true (by kernel_rfl)) k1 bel lt1) trodAll_mk0)), rfl, bel.frame _, fun h => by cases h⟩

theorem over : Rows.logNothingRow.holds Try.pinned (OpenSpec.ofChange Rows.logNothingSpec) :=
  OpenClaim.holds_of_wide 3 Try.f3 rfl rfl rfl rfl rfl rfl rfl ⟨rfl, rfl, rfl, rfl, rfl⟩ rfl rfl rfl rfl rfl (by kernel_rfl) Try.func3 (by kernel_rfl)
    (of_decide_eq_true (by kernel_rfl)) (by unfold Func.isWrapper; first | (rw [if_pos (by decide +kernel)]; kernel_rfl) | (rw [if_neg (by decide +kernel)]; exact ⟨rfl, rfl⟩))
    (fun os started H enc _ => lifted os started H enc)

end LLogNothing

theorem logNothing_holds : Rows.LogNothingSaid := LLogNothing.over

end Go.Proofs.Ytgfkpgogfahdaaa
