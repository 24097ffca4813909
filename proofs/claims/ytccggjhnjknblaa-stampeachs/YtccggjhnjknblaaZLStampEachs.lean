/-
  Chapter 6's law StampEachs returns true for every list of runs and every number, and leaves its arguments as they were; no condition.
-/
import Derived.Test.YtccggjhnjknblaaRows
import Derived.WalkKit
import Derived.ProofKit
import Derived.OpenShut
import Derived.ShutString
import Derived.ChangeOld
import Derived.Below
import Derived.Test.YtccggjhnjknblaaZEB
import Derived.Test.YtccggjhnjknblaaZKN
import Derived.Test.YtccggjhnjknblaaZRF1
import Derived.Test.YtccggjhnjknblaaZOp
import Derived.Deep.CutRange
set_option linter.unusedVariables false
set_option linter.unusedSimpArgs false
namespace Go.Proofs.Ytccggjhnjknblaa
namespace LStampEachs
open Go.ChangeShapes Go.WideShapes Go.ChangeAt Go.RowKit Go.Lib
open Go.ChangeMaps (open_string shut_string)

theorem run_equalIn_func_nil {P : Program} (w : World) (d : Nat) (t : TypeId) {x y z} (f : Fn) (bs cs : Array Value) (h : P.underlying t = some (.func x y z)) : (Op.equalIn (d + 1) t (.func f bs cs) .nilFunc).run P w = .ok false w := by
  simp [Op.equalIn, run_underlying h]
theorem run_equal_func_nil {P : Program} (w : World) (t : TypeId) {x y z} (f : Fn) (bs cs : Array Value) (h : P.underlying t = some (.func x y z)) : (Op.equal t (.func f bs cs) .nilFunc).run P w = .ok false w := run_equalIn_func_nil w 9999 t f bs cs h
theorem run_eql_func_nil {P : Program} (w : World) (t : TypeId) {x y z} (f : Fn) (bs cs : Array Value) (h : P.underlying t = some (.func x y z)) : (binOp .eql t (.func f bs cs) .nilFunc).run P w = .ok (.bool false) w := by
  simp only [binOp]
  simp [run_equal_func_nil w t f bs cs h]

theorem owns_at3 {W : World} {B E n : Nat} {a : Option Addr} {c : Nat} {C : List Value} (h : W.ownsRow B E 3 (.slice a n c) n C) {i : Nat} (hi : i < n) : ∃ g, a = some ⟨g, 0, none⟩ ∧ B ≤ g ∧ (∀ j, j < 3 → ∃ x, W.cell? ⟨g, i * 3 + j, none⟩ = some x) ∧ (∀ j, W.frozen? ⟨g, j, none⟩ = false) ∧
    ∀ x y z, ∃ C', (((W.setCell ⟨g, i * 3, none⟩ x).setCell ⟨g, i * 3 + 1, none⟩ y).setCell ⟨g, i * 3 + 2, none⟩ z).ownsRow B E 3 (.slice a n c) n C' := by
  obtain ⟨h1, (⟨_, h2⟩ | ⟨g, cap, cur, e, hb, hg, hc1, hc2, hc3, hc4⟩)⟩ := h
  · omega
  simp at e
  obtain ⟨rfl, rfl⟩ := e
  have hx : Bx W g E cur := hg
  refine ⟨g, rfl, hb, fun j hj => ⟨cur[i * 3 + j]'(by omega), hx.cell _ _ (Array.getElem?_eq_getElem (by omega))⟩, fun j => hx.frozen j, fun x y z => ?_⟩
  have h3 := ((hx.set (i * 3) x).set (i * 3 + 1) y).set (i * 3 + 2) z
  refine ⟨_, ?_, .inr ⟨g, c, _, rfl, hb, h3, hc1, hc2, by simpa using hc3, rfl⟩⟩
  rw [List.length_take]
  simp
  omega

set_option maxRecDepth 100000 in
set_option maxHeartbeats 8000000 in
theorem walk (a0 : Option Addr) (len0 cap0 : Nat) (z0 : List ((Int × Int) × Int)) (stop : Int) (w : World)
    (w0 : RR w (.slice a0 len0 cap0) z0 ∧ z0.length = len0 ∧ len0 ≤ maxLen ∧ ∀ e ∈ z0, runIn e) (w1 : (Lit.int .i64 stop).wf = true) :
    Calls Try.prog 3 #[.slice a0 len0 cap0, .int .i64 stop] w fun e W' => e = .returned (.bool true) ∧ Below w.heap.size w W' := by
  obtain ⟨h0, hl0, -, hin0⟩ := w0
  clear w1
  obtain ⟨X, hX⟩ : ∃ X, w.alloc (.cells #[.int .i64 stop] 3) = X := ⟨_, rfl⟩
  have bX : Below w.heap.size w X := by rw [← hX]; exact ballc (Below.refl _ _) _
  have sX : Bx X w.heap.size 3 #[.int .i64 stop] := by rw [← hX]; exact Bx.new w _ _
  by_cases hm : 400 < len0
  · have hm' : (400 : Int) < (len0 : Int) := by omega
    have HK := hide (known_in X)
    have HB := hide bX
    clear h0 hin0 sX bX
    go_enter Try.func3, Try.ntmps3
    go_wp2_with (go_at_call 5; refine (unhide HK).mono ?_; rintro e W1 ⟨rfl, hb⟩)
    go_ret
    exact ⟨rfl, bnext (unhide HB) hb⟩
  have hm' : ¬ (400 : Int) < (len0 : Int) := by omega
  have hs0 : len0 ≤ 400 := by omega
  have HE := hide (refEach_in (.slice a0 len0 cap0) z0 X (h0.below bX) hin0 (by omega))
  have hol := ownR_len z0
  have hol' : (ownR z0).length ≤ 1000000 := by omega
  have hin := hin0
  have H0 := hide h0
  have Hin := hide hin0
  have HSX := hide sX
  have HBX := hide bX
  have Hl := hide hl0
  clear h0 hin0 sX bX hin hl0 hm hol
  go_enter Try.func3, Try.ntmps3
  go_wp2_with fail
  refine (unhide HE).mono ?_
  rintro e W1 ⟨uw, rfl, how, hb1⟩
  obtain ⟨aw, cw, rfl⟩ := owns_form how
  obtain ⟨W2, hW2⟩ : ∃ Y, W1.alloc (.cells #[.slice aw (wantR z0).length cw] 24) = Y := ⟨_, rfl⟩
  have b12 : Below W1.heap.size W1 W2 := by rw [← hW2]; exact ballc (Below.refl _ _) _
  have bX2 := bnext hb1 b12
  have xw : Bx W2 W1.heap.size 24 #[.slice aw (wantR z0).length cw] := by rw [← hW2]; exact Bx.new W1 _ _
  have hB2 := bnext (unhide HBX) bX2
  have h02 := (unhide H0).below hB2
  obtain ⟨v3, W3, hap, ho3, hg3⟩ := app_nil 22 32 3 24 _ Try.underlying22 infoR rfl (by decide) W2 W2.heap.size 22 _ z0.length (flat encR z0) h02 (flat_len encR_len z0) encR_one (Nat.le_refl _) (by unfold maxLen; have := unhide Hl; omega) (by have := unhide Hl; omega)
  have b23 : Below W2.heap.size W2 W3 := (Below.refl _ W2).grown hg3 (Nat.le_refl _) (fun k hk => by cases hk)
  have HEa := hide (Each_in W2.heap.size v3 z0 W3 ho3 (unhide Hin) (by have := unhide Hl; omega))
  rw [unhide Hl] at ho3
  obtain ⟨a3, c3, rfl⟩ := owns_form ho3
  replace hap := hide hap
  have HO3 := hide ho3
  have HS2 := hide ((unhide HSX).below bX2)
  have HX2 := hide xw
  have HR2 := hide (show RI W2 (.slice aw (wantR z0).length cw) (wantR z0) from (RC.of_owns how).below b12)
  have HB2 := hide hB2
  have HB23 := hide b23
  have hlt12 : W1.heap.size < W2.heap.size := xw.lt
  clear HE how hb1 b12 bX2 xw hB2 h02 ho3 hg3 b23 H0 HSX HBX
  go_wp2_with (at_builtin; refine wpList_append_eq rfl _ _ 22 rfl _ _ _ _ rfl rfl (unhide hap) ?_)
  refine (unhide HEa).mono ?_
  rintro e W4 ⟨u, rfl, xo, hou, hb34⟩
  obtain ⟨I, hI⟩ : ∃ I, W4.heap.size = I := ⟨_, rfl⟩
  obtain ⟨Bo, hBo⟩ : ∃ I, W3.heap.size = I := ⟨_, rfl⟩
  obtain ⟨W5, hW5⟩ : ∃ Y, W4.alloc (.cells #[.func (.func 29) #[] #[.pointer (some ⟨W3.heap.size, 0, none⟩)]] 27) = Y := ⟨_, rfl⟩
  have b45 : Below W4.heap.size W4 W5 := by rw [← hW5]; exact ballc (Below.refl _ _) _
  have xi : Bx W5 W4.heap.size 27 #[.func (.func 29) #[] #[.pointer (some ⟨W3.heap.size, 0, none⟩)]] := by rw [← hW5]; exact Bx.new W4 _ _
  have b35 := bnext hb34 b45
  have b25 := bnext (unhide HB23) b35
  have hE5 : EnvS z0 stop w.heap.size W1.heap.size W3.heap.size W4.heap.size (.slice aw (wantR z0).length cw) u W5 := ⟨(unhide HS2).below b25, (unhide HX2).below b25, xo.below b45, xi, (unhide HR2).below b25, (RC.of_owns hou).below b45⟩
  have hB5 := bnext (unhide HB2) b25
  have ho5 : W5.ownsRow W2.heap.size 32 3 (.slice a3 len0 c3) len0 (flat encR z0) := owns_kp (unhide HO3) (Kp.of_below (N := fun _ => False) b35) (fun _ _ e => e)
  -- whose the rows are
  have hS1 : w.heap.size < W2.heap.size := (unhide HS2).lt
  have hgu : ∀ g, (Value.slice a3 len0 c3).ownBlock = some g → W2.heap.size ≤ g ∧ g < W3.heap.size := fun g hg => ⟨((unhide HO3).lt g hg).1, ((unhide HO3).lt g hg).2⟩
  have huB : 0 < (ownR z0).length → ∀ i, u.ownBlock = some i → W3.heap.size ≤ i := fun _ i hi => (hou.lt i hi).1
  have huw : 0 < (wantR z0).length → ∀ i, (Value.slice aw (wantR z0).length cw).ownBlock = some i → i < W2.heap.size := fun h0 i hi => by
    rcases unhide HR2 with ⟨h1, _⟩ | ⟨b, off, cap, e, _, hl, _⟩
    · omega
    · rw [e] at hi
      simp [Value.ownBlock] at hi
      omega
  have hEk : ∀ W', Kp (fun k => (Value.slice a3 len0 c3).ownBlock = some k) W5 W' → EnvS z0 stop w.heap.size W1.heap.size W3.heap.size W4.heap.size (.slice aw (wantR z0).length cw) u W' ∧ Below w.heap.size w W' := fun W' hk =>
    ⟨⟨hE5.st.kp hk (fun e => by have := hgu _ e; omega), hE5.wa.kp hk (fun e => by have := hgu _ e; omega), hE5.ow.kp hk (fun e => by have := hgu _ e; omega), hE5.it.kp hk (fun e => by have := hgu _ e; have := xo.lt; omega), RC.kpx hE5.rw_ hk (fun h0 i hi e => by have := huw h0 i hi; have := hgu _ e; omega), RC.kpx hE5.ro hk (fun h0 i hi e => by have := huB h0 i hi; have := hgu _ e; omega)⟩, hk.below hB5 (fun i e => by have := hgu _ e; omega)⟩
  have HEk := hide hEk
  have HO5 := hide ho5
  have hcI := xi.cell 0 _ rfl
  have hnil := fun w => run_eql_func_nil (P := Try.prog) w 27 (.func 29) #[] #[.pointer (some ⟨W3.heap.size, 0, none⟩)] Try.underlying27
  obtain ⟨B1, hB1⟩ : ∃ I, W1.heap.size = I := ⟨_, rfl⟩
  rw [hI, hBo] at hcI
  rw [hBo] at hW5
  simp only [hBo] at hnil
  rw [hI, hBo, hB1] at HEk
  clear xo hou hb34 b45 xi b35 b25 hE5 hB5 ho5 hgu huB huw hEk HEa hap HO3 HS2 HX2 HR2 HB2 HB23
  go_wp2
  clear hcI hnil hW5 hI hBo hB1 hW2 hX
  go_loopw [8] (fun iv wr => ∃ i : Nat, iv = .int .i64 (i : Nat) ∧ i ≤ len0 ∧ Hid (Kp (fun k => (Value.slice a3 len0 c3).ownBlock = some k) W5 wr ∧ ∃ C, wr.ownsRow W2.heap.size 32 3 (.slice a3 len0 c3) len0 C)) (fun iv _ => len0 - (Lib.intOf iv).toNat)
  case atStart => exact ⟨0, rfl, by omega, hide ⟨Kp.refl _ _, _, unhide HO5⟩⟩
  case round =>
    obtain ⟨i, rfl, hi, HH⟩ := hrel
    by_cases hlt : i < len0
    · have hlt' : (i : Int) < (len0 : Int) := by omega
      obtain ⟨hk, C, hC⟩ := unhide HH
      obtain ⟨g, rfl, hg, hcs, hfz, hset⟩ := owns_at3 hC hlt
      obtain ⟨d0, e0⟩ := hcs 0 (by omega)
      obtain ⟨d1, e1⟩ := hcs 1 (by omega)
      obtain ⟨d2, e2⟩ := hcs 2 (by omega)
      rw [Nat.add_zero] at e0
      have f0 := hfz (i * 3)
      have f1 := hfz (i * 3 + 1)
      have f2 := hfz (i * 3 + 2)
      have hset' := hide (hset (.int .i64 5) (.int .i64 5) (.int .i64 5))
      have HK := hide hk
      clear hset hcs hfz hC hk HH HO5
      go_wp2
      go_roundw
      case measure => show len0 - ((i : Int) + 1).toNat < len0 - ((i : Nat) : Int).toNat; omega
      case rel =>
        refine ⟨i + 1, by go_num, by omega, hide ⟨?_, unhide hset'⟩⟩
        exact (((unhide HK).trans (Kp.set (N := fun k => (Value.slice (some ⟨g, 0, none⟩) len0 c3).ownBlock = some k) wr ⟨g, i * 3, none⟩ _ rfl) (fun i h => .inl h)).trans (Kp.set (N := fun k => (Value.slice (some ⟨g, 0, none⟩) len0 c3).ownBlock = some k) _ ⟨g, i * 3 + 1, none⟩ _ rfl) (fun i h => .inl h)).trans (Kp.set (N := fun k => (Value.slice (some ⟨g, 0, none⟩) len0 c3).ownBlock = some k) _ ⟨g, i * 3 + 2, none⟩ _ rfl) (fun i h => .inl h)
    · have hlt' : ¬ (i : Int) < (len0 : Int) := by omega
      obtain ⟨hE6, hB6⟩ := unhide HEk wr (unhide HH).1
      have HE6 := hide hE6
      have HB6 := hide hB6
      obtain ⟨W6, hW6⟩ : ∃ W6, W6 = wr := ⟨_, rfl⟩
      subst hW6
      clear HH HEk HO5 hE6 hB6
      go_wp2
      go_loopw [9] (fun iv wq => ∃ j : Nat, j ≤ 2 ∧ iv = .int .i64 (j : Nat) ∧ Hid (Below W6.heap.size W6 wq)) (fun iv _ => 2 - (Lib.intOf iv).toNat)
      case atStart => exact ⟨0, by omega, rfl, hide (Below.refl _ _)⟩
      case round =>
        obtain ⟨j, hj2, rfl, hBr⟩ := hrel
        have hEr := (unhide HE6).below (unhide hBr)
        have HEr := hide hEr
        by_cases hlt2 : j < 2
        · have j1 : (j : Int) < 2 := by omega
          have c1 := (hEr.it.below (ballc (ballc (Below.refl _ _) (.cells #[.int .i64 0] 3)) (.cells #[.bool true] 4))).cell 0 _ rfl
          have hout := hide (outer_in z0 hol' stop _ _ _ _ _ _ wr hEr)
          clear hEr
          go_wp2_with fail
          refine (unhide hout).mono ?_
          rintro e W7 ⟨rfl, hb7, hn7, ho7⟩
          have hE7 := (unhide HEr).below hb7
          have c2 := ho7.cell 0 _ rfl
          have c3' := hn7.cell 0 _ rfl
          have c4 := hE7.wa.cell 0 _ rfl
          have HB7 := hide (bnext (unhide hBr) hb7)
          clear hout c1 hb7 hn7 ho7 hE7
          go_wp2
          go_roundw
          case measure => show 2 - ((j : Int) + 1).toNat < 2 - ((j : Nat) : Int).toNat; omega
          case rel => exact ⟨j + 1, by omega, by go_num, HB7⟩
        · have j1 : ¬ (j : Int) < 2 := by omega
          have c1 := (hEr.it.below (ballc (Below.refl _ _) (.cells #[.int .i64 0] 3))).cell 0 _ rfl
          have hout := hide (last_in z0 hol' stop _ _ _ _ _ _ wr hEr)
          clear hEr
          go_wp2_with fail
          refine (unhide hout).mono ?_
          rintro e W7 ⟨rfl, k, hcn⟩
          have hE7 := (unhide HEr).below hcn.be
          have c2 := hcn.bx.cell 0 _ rfl
          have c3' := hE7.wa.cell 0 _ rfl
          have c4 := hE7.st.cell 0 _ rfl
          have HB7 := hide (bnext (unhide HB6) (bnext (unhide hBr) hcn.be))
          have his := hcn.is
          have hle := hcn.le
          have HK := hide (fun W => known_in W)
          have hwl := wantR_len z0
          obtain ⟨L, hL⟩ : ∃ L, (wantR z0).length = L := ⟨_, rfl⟩
          rw [hL] at his c3' hwl
          clear hout c1 hcn hE7 hL
          by_cases hkl : k = L
          · subst hkl
            clear his
            go_wp2_with fail
            refine (unhide HK _).mono ?_
            rintro e W8 ⟨rfl, hb8⟩
            go_wp2
            go_ret
            exact ⟨rfl, bnext (unhide HB7) hb8⟩
          · have hks : (k : Int) = stop := his.resolve_left hkl
            subst hks
            have j2 : ¬ (k : Int) = (L : Int) := by omega
            clear his
            go_wp2_with fail
            refine (unhide HK _).mono ?_
            rintro e W8 ⟨rfl, hb8⟩
            go_wp2
            go_ret
            exact ⟨rfl, bnext (unhide HB7) hb8⟩

theorem own : ownKnob Try.prog.godebug = none := by kernel_rfl
theorem laidOut2 : laidOutB Try.prog = true := by kernel_rfl

set_option maxRecDepth 100000 in
theorem lifted (os : Os) (started : os.Started) (H : Type) (enc : TypeId × Value → H) :
    ReturnsInHanded {} Try.checked os 3 .any (Rows.stampEachsSpec.pre6 enc Try.prog Try.f3 Rows.stampEachsRow.domain false) (Rows.stampEachsSpec.post enc Try.prog Try.f3 false true false false) := by
  refine returnsInHanded_of_change (C := Try.checked) own started (by kernel_rfl) Try.func3
    (ChangeSpec.witness6 (enc := enc) (C := Try.checked) false ⟨#[], #[.slice none 0 0, .int .i64 0], []⟩ 8 (by kernel_rfl) (by kernel_rfl) (by kernel_rfl) (by kernel_rfl)) ?_
  intro W base args ds gs before hval0 hW hcnd _
  have hval : ∀ (j : Nat) t v, Try.f3.params[j]? = some t → args[j]? = some v → Value.okWide Try.prog W .any base t v := hval0
  have hW' := hW
  obtain ⟨p, q, hA0, hV, rfl, hfz, hnd⟩ := hW
  have hA : DataW.TrodAll enc Try.prog W 0 (fun _ => true) true Try.f3.params.toList args.toList ds p := hA0
  rw [Try.params3] at hA hval
  obtain ⟨v0, vs0, d0, ds0, p0, q0, hargs, rfl, rfl, h0, r0⟩ := trodAll_cons hA
  obtain ⟨v1, vs1, d1, ds1, p1, q1, rfl, rfl, rfl, h1, r1⟩ := trodAll_cons r0
  obtain ⟨rfl, rfl, rfl⟩ := trodAll_nil r1
  obtain rfl : args = #[v0, v1] := by cases args; simp_all
  obtain ⟨rfl, rfl⟩ := trodVars_none hV
  obtain ⟨a0, len0, cap0, rfl⟩ := okWide_slice Try.underlying22 (hval 0 22 v0 rfl rfl)
  have k0 := h0
  have lt0 : ∀ x ∈ p0, x.block < W.heap.size := by obtain ⟨m, hm⟩ := k0; exact DataW.trod_lt m _ _ _ hm
  obtain ⟨z0, w0⟩ : ∃ l : List ((Int × Int) × Int), RR W (.slice a0 len0 cap0) l ∧ l.length = len0 ∧ len0 ≤ maxLen ∧ ∀ e ∈ l, runIn e := by
    obtain ⟨fuel, hf⟩ := h0
    simp only [Value.cells] at hf
    exact open_runs hf
  obtain ⟨a1, rfl, rfl, rfl, w1⟩ := open_int Try.underlying3 (hval 1 3 v1 rfl rfl) h1
  clear hA0 hval0
  refine (walk a0 len0 cap0 z0 a1 W w0 w1).mono fun e W' ⟨he, bel⟩ => ?_
  subst he
  exact ⟨_, rfl, _, _, _, [], _, [], hW', trodAll_mk1 (shut_bool Try.underlying4 _), (trodAll_cons_mk (Below.trod laidOut2 (by kernel_rfl) (of_decide_eq_true (by kernel_rfl)) k0 bel lt0) (trodAll_cons_mk (shut_int Try.underlying3 w1) trodAll_mk0)), rfl, bel.frame _, fun h => by cases h⟩

theorem over : Rows.stampEachsRow.holds Try.pinned (OpenSpec.ofChange Rows.stampEachsSpec) :=
  OpenClaim.holds_of_wide 3 Try.f3 rfl rfl rfl rfl rfl rfl rfl ⟨rfl, rfl, rfl, rfl, rfl⟩ rfl rfl rfl rfl rfl (by kernel_rfl) Try.func3 (by kernel_rfl)
    (of_decide_eq_true (by kernel_rfl)) (by unfold Func.isWrapper; first | (rw [if_pos (by decide +kernel)]; kernel_rfl) | (rw [if_neg (by decide +kernel)]; exact ⟨rfl, rfl⟩))
    (fun os started H enc _ => lifted os started H enc)

end LStampEachs

theorem stampEachs_holds : Rows.StampEachsSaid := LStampEachs.over

end Go.Proofs.Ytccggjhnjknblaa
