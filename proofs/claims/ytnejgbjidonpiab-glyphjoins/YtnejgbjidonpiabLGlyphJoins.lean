/-
  Chapter 1's law GlyphJoins returns true for every two texts and every number, and leaves its arguments as they were; no condition.
-/
import Derived.Test.YtnejgbjidonpiabRows
import Derived.WalkKit
import Derived.ProofKit
import Derived.OpenShut
import Derived.ShutString
import Derived.ChangeOld
import Derived.Below
import Derived.Test.YtnejgbjidonpiabKnown
import Derived.Test.YtnejgbjidonpiabRt2
set_option linter.unusedVariables false
set_option linter.unusedSimpArgs false
namespace Go.Proofs.Ytnejgbjidonpiab
namespace LGlyphJoins
open Go.ChangeShapes Go.WideShapes Go.ChangeAt Go.RowKit Go.Lib
open Go.ChangeMaps (open_string shut_string)

theorem info32 : (Try.prog.info? 21).map (fun i => (i.zero, i.size, i.bytes)) = some (some (.int .i32 0), 1, 4) := by kernel_rfl

theorem own_cells {W : World} {B b cap : Nat} {zs : List Int} (h : W.ownsRow B 21 1 (.slice (some ⟨b, 0, none⟩) zs.length cap) zs.length (zs.map (Value.int .i32))) :
    ∀ j u, (zs.map (Value.int .i32))[j]? = some u → W.cell? ((⟨b, 0, none⟩ : Addr).add j) = some u := h.cells rfl
theorem one_cells (zs : List Int) : ∀ u ∈ zs.map (Value.int .i32), u.oneCell' = true := by
  intro u hu
  obtain ⟨z, _, rfl⟩ := List.mem_map.1 hu
  rfl
theorem owns_below {W W' : World} {B e n : Nat} {v : Value} {xs : List Value} (h : W.ownsRow B e 1 v n xs) (hb : Below W.heap.size W W') : W'.ownsRow B e 1 v n xs := by
  refine ⟨h.1, ?_⟩
  rcases h.2 with h2 | ⟨g, cap, cur, e1, e2, e3, rest⟩
  · exact .inl h2
  · exact .inr ⟨g, cap, cur, e1, e2, (hb.block g (Array.getElem?_eq_some_iff.1 e3).1).trans e3, rest⟩
theorem owns_form {W : World} {B e n : Nat} {v : Value} {xs : List Value} (h : W.ownsRow B e 1 v n xs) : ∃ a c, v = .slice a n c := by
  rcases h.2 with ⟨rfl, rfl⟩ | ⟨g, cap, cur, rfl, _⟩
  · exact ⟨_, _, rfl⟩
  · exact ⟨_, _, rfl⟩

set_option maxRecDepth 100000 in
set_option maxHeartbeats 2000000 in
theorem walk (a0 a1 : ByteArray) (a2 : Int) (w0 : a0.size ≤ maxLen) (w1 : a1.size ≤ maxLen) (w2 : (Lit.int .i64 a2).wf = true) (w : World) :
    Calls Try.prog 4 #[.string a0, .string a1, .int .i64 a2] w fun e w' => e = .returned (.bool true) ∧ Below w.heap.size w w' := by
  have hbd := bounds_i64 w2
  unfold maxLen at w0 w1
  obtain ⟨i0, hi, hz0, hz1, hz2⟩ := info_parts info32
  by_cases hbig : 20000 < a0.size
  · go_enter Try.func4, Try.ntmps4
    go_wp2_with (go_at_call 6; refine (known_in _).mono ?_; rintro e w' ⟨rfl, hB⟩)
    go_ret
    exact ⟨rfl, hB⟩
  · by_cases hbig2 : 20000 < a1.size
    · go_enter Try.func4, Try.ntmps4
      go_wp2_with (go_at_call 6; refine (known_in _).mono ?_; rintro e w' ⟨rfl, hB⟩)
      go_ret
      exact ⟨rfl, hB⟩
    · obtain ⟨ra, hra⟩ : ∃ r, runeL a0 = r := ⟨_, rfl⟩
      obtain ⟨rb, hrb⟩ : ∃ r, runeL a1 = r := ⟨_, rfl⟩
      obtain ⟨A, hA⟩ : ∃ m, runesBytes ra = m := ⟨_, rfl⟩
      obtain ⟨B, hB⟩ : ∃ m, runesBytes rb = m := ⟨_, rfl⟩
      have lra : ra.length ≤ 20000 := by rw [← hra, runeL_length]; have := allL_length a0; omega
      have lrb : rb.length ≤ 20000 := by rw [← hrb, runeL_length]; have := allL_length a1; omega
      have fA : runeL A = ra := by rw [← hA, ← hra, fixed_laid]
      have fB : runeL B = rb := by rw [← hB, ← hrb, fixed_laid]
      have fC : runeL (A ++ B) = ra ++ rb := by rw [← hA, ← hB, ← runesBytes_append, runeL_laid, List.map_append, ← hra, ← hrb, runeL_fix, runeL_fix]
      have zA : A.size ≤ 80000 := by have h1 := runesBytes_size_le ra; rw [hA] at h1; omega
      have zB : B.size ≤ 80000 := by have h1 := runesBytes_size_le rb; rw [hB] at h1; omega
      have zC : (A ++ B).size ≤ 160000 := by rw [ByteArray.size_append]; omega
      have cA : (allL A).length = ra.length := by rw [← hA, count_laid]
      have cB : (allL B).length = rb.length := by rw [← hB, count_laid]
      have cC : (allL (A ++ B)).length = ra.length + rb.length := by rw [← hA, ← hB, ← runesBytes_append, count_laid, List.length_append]
      have kL : cutL (A ++ B) a2 = runesBytes ((ra ++ rb).take a2.toNat) := by rw [← hA, ← hB, ← runesBytes_append]; exact (cut_laid _ _).1
      have kR : cutR (A ++ B) a2 = runesBytes ((ra ++ rb).drop a2.toNat) := by rw [← hA, ← hB, ← runesBytes_append]; exact (cut_laid _ _).2
      obtain ⟨X, hX⟩ : ∃ m, runesBytes ((ra ++ rb).take a2.toNat) = m := ⟨_, rfl⟩
      obtain ⟨Y, hY⟩ : ∃ m, runesBytes ((ra ++ rb).drop a2.toNat) = m := ⟨_, rfl⟩
      have cX : (allL X).length = min a2.toNat (ra.length + rb.length) := by rw [← hX, count_laid, List.length_take, List.length_append]
      have cY : (allL Y).length = ra.length + rb.length - a2.toNat := by rw [← hY, count_laid, List.length_drop, List.length_append]
      have zX : X.size ≤ 160000 := by have h1 := runesBytes_size_le ((ra ++ rb).take a2.toNat); rw [hX, List.length_take, List.length_append] at h1; omega
      have zY : Y.size ≤ 160000 := by have h1 := runesBytes_size_le ((ra ++ rb).drop a2.toNat); rw [hY, List.length_drop, List.length_append] at h1; omega
      have eXY : X ++ Y = A ++ B := by rw [← hX, ← hY, ← runesBytes_append, List.take_append_drop, runesBytes_append, hA, hB]
      rw [hX] at kL
      rw [hY] at kR
      have HA := hide (show runesBytes (runeL a0) = A by rw [hra]; exact hA)
      have HB := hide (show runesBytes (runeL a1) = B by rw [hrb]; exact hB)
      have FA := hide fA
      have FB := hide fB
      have FC := hide fC
      have CA := hide cA
      have CB := hide cB
      have CC := hide cC
      have CX := hide cX
      have CY := hide cY
      have KL := hide kL
      have KR := hide kR
      have ebq : ((X ++ Y).toList == (A ++ B).toList) = true := by rw [eXY]; simp
      have EQ := hide ebq
      clear hra hrb hA hB fA fB fC cA cB cC kL kR hX hY cX cY eXY ebq
      have hcc : (((ra.length : Int) + (rb.length : Int)) != ((ra.length : Int) + (rb.length : Int))) = false := by simp
      have hcb : (((ra.length : Int) + (rb.length : Int)) == ((ra.length : Int) + (rb.length : Int))) = true := by simp
      have haa : (a2 == a2) = true := by simp
      have hsb : (((ra.length : Int) + (rb.length : Int) - a2) == ((ra.length : Int) + (rb.length : Int) - a2)) = true := by simp
      have h00 : ((0 : Int) == 0) = true := by simp
      have CCI : Hid (((allL (A ++ B)).length : Int) = (ra.length : Int) + (rb.length : Int)) := hide (by rw [unhide CC]; omega)
      have CAI : Hid (((allL A).length : Int) = (ra.length : Int)) := hide (by rw [unhide CA])
      have CBI : Hid (((allL B).length : Int) = (rb.length : Int)) := hide (by rw [unhide CB])
      obtain ⟨want, hcase, cxi, cyi⟩ : ∃ want : Int, ((a2 < 0 ∧ want = 0) ∨ (0 ≤ a2 ∧ a2 ≤ (ra.length : Int) + (rb.length : Int) ∧ want = a2) ∨ ((ra.length : Int) + (rb.length : Int) < a2 ∧ want = (ra.length : Int) + (rb.length : Int))) ∧ ((allL X).length : Int) = want ∧ ((allL Y).length : Int) = (ra.length : Int) + (rb.length : Int) - want := by
        have h1 := unhide CX
        have h2 := unhide CY
        rcases (by omega : a2 < 0 ∨ (0 ≤ a2 ∧ a2 ≤ (ra.length : Int) + (rb.length : Int)) ∨ ((ra.length : Int) + (rb.length : Int) < a2)) with h | h | h
        · exact ⟨0, .inl ⟨h, rfl⟩, by omega, by omega⟩
        · exact ⟨a2, .inr (.inl ⟨h.1, h.2, rfl⟩), by omega, by omega⟩
        · exact ⟨(ra.length : Int) + (rb.length : Int), .inr (.inr ⟨h, rfl⟩), by omega, by omega⟩
      have CXI := hide cxi
      have CYI := hide cyi
      clear cxi cyi CX CY CC CA CB
      obtain ⟨hb1, hb2⟩ := hbd
      rcases hcase with ⟨hc, rfl⟩ | ⟨hc, hc', rfl⟩ | ⟨hc, rfl⟩
      all_goals
        go_enter Try.func4, Try.ntmps4
        go_wp2_with fail
        refine (mend_in _ (by omega) _).mono ?_
        rintro e W1 ⟨rfl, hB1⟩
        rw [unhide HA]
        go_wp2_with fail
        refine (mend_in _ (by omega) _).mono ?_
        rintro e W2 ⟨rfl, hB2⟩
        rw [unhide HB]
        go_wp2_with fail
        refine (runes_in _ (by omega) _).mono ?_
        rintro e W3 ⟨v3, rfl, ho3, hB3, c3, hv3⟩
        rw [unhide FA] at ho3 hv3
        subst hv3
        have hBa : Below w.heap.size w W3 := by
          have := hB1.size
          have := hB2.size
          exact ((hB1.trans (hB2.mono (by omega))).trans (hB3.mono (by omega)))
        clear hB1 hB2 hB3
        have hsa := hBa.size
        go_wp2_with (at_builtin; refine wpList_append_own _ rfl _ _ 22 rfl w.heap.size 21 i0 (.int .i32 0) 1 4 Try.underlying22 hi hz0 hz1 hz2 rfl (by decide) (.slice none 0 0) 0 [] rfl (World.ownsRow_nil _ _ _ _) ⟨W2.heap.size, 0, none⟩ ra.length c3 (ra.map (Value.int .i32)) rfl (by simp) (own_cells ho3) (one_cells ra) (by unfold maxLen; omega) (by omega) hsa ?_; intro v4 W4 ho4 hg4 _)
        have hBb := hBa.grown hg4 hsa (fun k e => by cases e)
        simp only [Nat.zero_add, List.nil_append] at ho4
        clear hBa hsa hg4 ho3
        refine (runes_in _ (by omega) _).mono ?_
        rintro e W5 ⟨v5, rfl, ho5, hB5, c5, hv5⟩
        rw [unhide FB] at ho5 hv5
        subst hv5
        have ho4' := owns_below ho4 hB5
        have hBc := hBb.trans (hB5.mono hBb.size)
        have hsc := hBc.size
        clear ho4 hBb hB5
        go_wp2_with (at_builtin; refine wpList_append_own _ rfl _ _ 22 rfl w.heap.size 21 i0 (.int .i32 0) 1 4 Try.underlying22 hi hz0 hz1 hz2 rfl (by decide) v4 ra.length (ra.map (Value.int .i32)) rfl ho4' ⟨W4.heap.size, 0, none⟩ rb.length c5 (rb.map (Value.int .i32)) rfl (by simp) (own_cells ho5) (one_cells rb) (by unfold maxLen; omega) (by omega) hsc ?_; intro v6 W6 ho6 hg6 _)
        have hBd := hBc.grown hg6 hsc (fun k e => (ho4'.lt k e).1)
        rw [← List.map_append] at ho6
        have hr6 : RS W6 v6 (ra ++ rb) := RS.of_owns (by rw [List.length_append]; exact ho6)
        obtain ⟨a6, c6, rfl⟩ := owns_form ho6
        clear hBc hsc hg6 ho6 ho4' ho5
        have Hr6 := hide hr6
        clear hr6
        refine (count_in _ (by omega) _).mono ?_
        rintro e W7 ⟨rfl, hB7⟩
        rw [unhide CCI]
        go_wp2_with fail
        refine (count_in _ (by omega) _).mono ?_
        rintro e W8 ⟨rfl, hB8⟩
        rw [unhide CAI]
        go_wp2_with fail
        refine (count_in _ (by omega) _).mono ?_
        rintro e W9 ⟨rfl, hB9⟩
        rw [unhide CBI]
        go_wp2_with fail
        refine (runes_in _ (by omega) _).mono ?_
        rintro e W10 ⟨v10, rfl, ho10, hB10, c10, hv10⟩
        have hr10 := RS.of_owns ho10
        rw [unhide FC] at hr10
        have hBf : Below W6.heap.size W6 W10 := by
          have := hB7.size
          have := hB8.size
          have := hB9.size
          exact (((hB7.trans (hB8.mono (by omega))).trans (hB9.mono (by omega))).trans (hB10.mono (by omega)))
        have hr6' := RS.below hBf (unhide Hr6)
        have hBg := hBd.trans (hBf.mono hBd.size)
        clear hv10 ho10 hB7 hB8 hB9 hB10 hBf hBd Hr6
        go_wp2_with fail
        refine (same_in _ _ _ _ _ hr10 hr6' (by simp; omega) (by simp; omega)).mono ?_
        rintro e W11 ⟨rfl, nd, rfl⟩
        rw [show decide (ra ++ rb = ra ++ rb) = true from by simp]
        clear hr10 hr6'
        go_wp2_with fail
        refine (cut_in _ _ (by omega) hb1 hb2 _).mono ?_
        rintro e W12 ⟨rfl, hB12⟩
        rw [unhide KL, unhide KR]
        have ebq := unhide EQ
        have hBh : Below w.heap.size w W12 := hBg.trans ((⟨hB12.os, hB12.tape, hB12.output, hB12.size, hB12.block⟩ : Below W10.heap.size W10 W12).mono hBg.size)
        clear hB12 hBg
        go_wp2_with fail
        refine (count_in _ (by omega) _).mono ?_
        rintro e W13 ⟨rfl, hB13⟩
        rw [unhide CXI]
        go_wp2_with fail
        refine (count_in _ (by omega) _).mono ?_
        rintro e W14 ⟨rfl, hB14⟩
        rw [unhide CYI]
        go_wp2_with fail
        refine (known_in _).mono ?_
        rintro e W15 ⟨rfl, hB15⟩
        go_wp2
        go_ret
        exact ⟨rfl, ((hBh.trans (hB13.mono hBh.size)).trans (hB14.mono (Nat.le_trans hBh.size hB13.size))).trans (hB15.mono (Nat.le_trans (Nat.le_trans hBh.size hB13.size) hB14.size))⟩

theorem own : ownKnob Try.prog.godebug = none := by kernel_rfl

set_option maxRecDepth 100000 in
theorem lifted (os : Os) (started : os.Started) (H : Type) (enc : TypeId × Value → H) :
    ReturnsInHanded {} Try.checked os 4 .any (Rows.glyphJoinsSpec.pre6 enc Try.prog Try.f4 Rows.glyphJoinsRow.domain false) (Rows.glyphJoinsSpec.post enc Try.prog Try.f4 false true false false) := by
  refine returnsInHanded_of_change (C := Try.checked) own started (by kernel_rfl) Try.func4
    (ChangeSpec.witness6 (enc := enc) (C := Try.checked) false ⟨#[], #[.string ByteArray.empty, .string ByteArray.empty, .int .i64 0], []⟩ 8 (by kernel_rfl) (by kernel_rfl) (by kernel_rfl) (by kernel_rfl)) ?_
  intro W base args ds gs before hval0 hW hcnd _
  have hval : ∀ (j : Nat) t v, Try.f4.params[j]? = some t → args[j]? = some v → Value.okWide Try.prog W .any base t v := hval0
  have hW' := hW
  obtain ⟨p, q, hA0, hV, rfl, hfz, hnd⟩ := hW
  have hA : DataW.TrodAll enc Try.prog W 0 (fun _ => true) true Try.f4.params.toList args.toList ds p := hA0
  rw [Try.params4] at hA hval
  obtain ⟨v0, vs0, d0, ds0, p0, q0, hargs, rfl, rfl, h0, r0⟩ := trodAll_cons hA
  obtain ⟨v1, vs1, d1, ds1, p1, q1, rfl, rfl, rfl, h1, r1⟩ := trodAll_cons r0
  obtain ⟨v2, vs2, d2, ds2, p2, q2, rfl, rfl, rfl, h2, r2⟩ := trodAll_cons r1
  obtain ⟨rfl, rfl, rfl⟩ := trodAll_nil r2
  obtain rfl : args = #[v0, v1, v2] := by cases args; simp_all
  obtain ⟨rfl, rfl⟩ := trodVars_none hV
  obtain ⟨a0, rfl, rfl, rfl, w0⟩ := open_string Try.underlying9 (hval 0 9 v0 rfl rfl) h0
  obtain ⟨a1, rfl, rfl, rfl, w1⟩ := open_string Try.underlying9 (hval 1 9 v1 rfl rfl) h1
  obtain ⟨a2, rfl, rfl, rfl, w2⟩ := open_int Try.underlying3 (hval 2 3 v2 rfl rfl) h2
  clear hA0 hval0
  simp only [List.append_nil] at hW'
  refine (walk a0 a1 a2 w0 w1 w2 W).mono fun e W' ⟨he, bel⟩ => ?_
  subst he
  exact ⟨_, rfl, _, _, _, [], _, [], hW', trodAll_mk1 (shut_bool Try.underlying4 _), (trodAll_cons_mk (shut_string Try.underlying9 w0) (trodAll_cons_mk (shut_string Try.underlying9 w1) (trodAll_cons_mk (shut_int Try.underlying3 w2) trodAll_mk0))), rfl, bel.frame _, fun h => by cases h⟩

theorem over : Rows.glyphJoinsRow.holds Try.pinned (OpenSpec.ofChange Rows.glyphJoinsSpec) :=
  OpenClaim.holds_of_wide 4 Try.f4 rfl rfl rfl rfl rfl rfl rfl ⟨rfl, rfl, rfl, rfl, rfl⟩ rfl rfl rfl rfl rfl (by kernel_rfl) Try.func4 (by kernel_rfl)
    (of_decide_eq_true (by kernel_rfl)) (by unfold Func.isWrapper; first | (rw [if_pos (by decide +kernel)]; kernel_rfl) | (rw [if_neg (by decide +kernel)]; exact ⟨rfl, rfl⟩))
    (fun os started H enc _ => lifted os started H enc)

end LGlyphJoins

theorem glyphJoins_holds : Rows.GlyphJoinsSaid := LGlyphJoins.over

end Go.Proofs.Ytnejgbjidonpiab
