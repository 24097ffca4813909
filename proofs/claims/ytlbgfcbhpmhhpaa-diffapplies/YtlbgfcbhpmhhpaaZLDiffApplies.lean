/-
  Chapter 5's law DiffApplies returns true for every text and every change, and leaves its arguments as they were; no condition.
-/
import Derived.Test.YtlbgfcbhpmhhpaaRows
import Derived.WalkKit
import Derived.ProofKit
import Derived.OpenShut
import Derived.ShutString
import Derived.ChangeOld
import Derived.Below
import Derived.Test.YtlbgfcbhpmhhpaaZM1
import Derived.Test.YtlbgfcbhpmhhpaaZH1
set_option linter.unusedVariables false
set_option linter.unusedSimpArgs false
namespace Go.Proofs.Ytlbgfcbhpmhhpaa
namespace LDiffApplies
open Go.ChangeShapes Go.WideShapes Go.ChangeAt Go.RowKit Go.Lib
open Go.ChangeMaps (open_string shut_string)

theorem open_own {W : World} {B n : Nat} {v : Value} {l : List Ed} {e : Ed} (hn : l.length = n) (h : W.ownsRow B 32 3 v (n + 1) (edsC l ++ edC e)) :
    ∃ b c, v = .slice (some ⟨b, 0, none⟩) (n + 1) c ∧ n ≤ c ∧ RE W (.slice (some ⟨b, 0, none⟩) n c) l ∧ W.cell? ⟨b, n * 3, none⟩ = some (.int .i64 e.1) := by
  have hE : edsC l ++ edC e = edsC (l ++ [e]) := by rw [edsC_append]; simp [edsC]
  rw [hE] at h
  have hr : RE W v (l ++ [e]) := RE.of_owns (by rw [List.length_append, hn]; exact h)
  rcases h with ⟨_, ⟨_, h0⟩ | ⟨b, c, cur, rfl, _, _, h1, _⟩⟩
  · omega
  · have hc : n ≤ c := by omega
    refine ⟨b, c, rfl, hc, ?_, ?_⟩
    · have := hr.takeE (k := n) (by simp; omega)
      rw [List.take_append_of_le_length (by omega), List.take_of_length_le (by omega)] at this
      exact this
    · rcases hr with ⟨e0, _⟩ | ⟨b', off, c', e0, hq⟩
      · simp at e0
      · simp only [Value.slice.injEq, Option.some.injEq, Addr.mk.injEq] at e0
        obtain ⟨⟨rfl, rfl, _⟩, _, _⟩ := e0
        have := (hq n e (by rw [← hn]; simp)).1
        rwa [Nat.zero_add] at this

set_option maxRecDepth 100000 in
set_option maxHeartbeats 8000000 in
theorem walk (a : ByteArray) (ad : Option Addr) (len cap : Nat) (l : List Ed) (W : World) (w0 : a.size ≤ maxLen) (w1 : RE W (.slice ad len cap) l ∧ l.length = len ∧ len ≤ maxLen ∧ ∀ e ∈ l, EdIn e) :
    Calls Try.prog 5 #[.string a, .slice ad len cap] W fun e W' => e = .returned (.bool true) ∧ Below W.heap.size W W' := by
  obtain ⟨hre, hll, hlm, hin⟩ := w1
  have hkn := fun W => hide (known_in W)
  have hhv := hide (heavy_in l _ W hre (by omega) hin)
  unfold maxLen at w0 hlm
  by_cases h1 : 8000 < a.size
  · have d1 : decide ((8000 : Int) < ((a.size : Nat) : Int)) = true := by rw [decide_eq_true_iff]; omega
    clear hre hin
    go_enter Try.func5, Try.ntmps5
    go_wp2_with fail
    refine (unhide (hkn _)).mono ?_
    rintro e W1 ⟨rfl, hB⟩
    go_wp2
    go_ret
    exact ⟨rfl, hB⟩
  · have d1 : decide ((8000 : Int) < ((a.size : Nat) : Int)) = false := by rw [decide_eq_false_iff_not]; omega
    cases hv : hvB l with
    | true =>
      rw [hv] at hhv
      clear hre hin hv
      go_enter Try.func5, Try.ntmps5
      go_wp2_with fail
      refine (unhide hhv).mono ?_
      rintro e W0 ⟨rfl, rfl⟩
      go_wp2_with fail
      refine (unhide (hkn _)).mono ?_
      rintro e W1 ⟨rfl, hB⟩
      go_wp2
      go_ret
      exact ⟨rfl, hB⟩
    | false =>
      rw [hv] at hhv
      obtain ⟨hl3, hs8⟩ := hvB_ok hv
      have hok : ∀ e ∈ l, EdOk e := fun e he => by
        obtain ⟨k1, k2, k3, k4, _⟩ := hin e he
        have := szL_mem l e he
        exact ⟨k1, k2, k3, k4, by omega⟩
      have hal := apW_len l a
      have n1 := fun v W h => hide (apply_in a l v W h (by omega) (by omega) hok (by omega))
      have n2 : ∀ W, RE W (.slice ad len cap) l → Hid (Calls Try.prog 15 #[.string a, .slice ad len cap] W fun e W' => ∃ gv, e = .returned (.tuple #[.string (if chk a l = 0 then ofL (apW a l) else ⟨#[]⟩), gv, .int .i64 (chk a l)]) ∧ Below W.heap.size W W') := fun W h => hide ((refApply_in a l _ W h (by omega) (by omega) hok (by omega)).mono fun e W' ⟨gv, q1, _, q2⟩ => ⟨gv, q1, q2⟩)
      have n3 := fun v W h => hide (invert_in a l v W h (by omega) (by omega) hok)
      have n4 := fun W h => hide (refInvert_in a l (.slice ad len cap) W h (by omega) (by omega) hok (by omega))
      have n5 := fun v W h => hide (weight_in l v W h (by omega) hok)
      have n6 := fun W h => hide (refWeight_in l (.slice ad len cap) W h (by omega) hok)
      have hml : (if chk a l = 0 then ivL a l else []).length ≤ 1000000000 := by
        split
        · rw [ivL_length]; omega
        · simp
      generalize (if chk a l = 0 then ivL a l else []) = m at *
      generalize (if chk a l = 0 then ofL (apW a l) else ⟨#[]⟩) = S at *
      generalize chk a l = E at *
      generalize wtL 0 l = wt at *
      have hEE : (E == E) = true := by simp
      have hSS : (S.toList == S.toList) = true := by simp
      have hww : (wt == wt) = true := by simp
      have R0 := hide hre
      have hl9 : l.length ≤ 1000000000 := by omega
      have hl6 : l.length ≤ 1000000 := by omega
      obtain ⟨i0, hinf, hz0, hz1, hz2⟩ := info_parts infoEdit
      clear hre hin hal hv hok
      go_enter Try.func5, Try.ntmps5
      go_wp2_with fail
      refine (unhide hhv).mono ?_
      rintro e W0 ⟨rfl, rfl⟩
      go_wp2_with (at_builtin; first | (refine wpList_append_ER rfl _ _ rfl W0.heap.size rfl _ l rfl (unhide R0) (Nat.le_refl _) hl6 ?_; intro v1 W1 ho1 hg1; have hB1 : Below W0.heap.size W0 W1 := (Below.refl _ _).grown hg1 (Nat.le_refl _) (fun q e => by cases e); have Ho1 := hide ho1; clear ho1) | (refine wpList_append_own _ rfl _ _ 23 rfl W0.heap.size 32 i0 _ 3 32 Try.underlying23 hinf hz0 hz1 hz2 rfl (by decide) v1 l.length (edsC l) rfl (World.ownsRow.alloc (unhide Ho1) _) ⟨W1.heap.size, 0, none⟩ 1 1 (edC (777, 0, ⟨#[]⟩)) rfl rfl (new_three _ _ _ _ _) (by simp [edC, Value.oneCell']) (by unfold maxLen; omega) (by omega) (Nat.le_trans hB1.size (by simp)) ?_; intro v4 W4 ho4 hg4 _; have hB4 : Below W0.heap.size W0 W4 := (hB1.alloc hB1.size _).grown hg4 (Nat.le_trans hB1.size (by simp)) (fun q e => ((unhide Ho1).lt q e).1); obtain ⟨xb, xc, rfl, hxc, hR, hC⟩ := open_own hll (hll ▸ ho4); have RT := hide hR; have C7 := hide hC; have fsl := fun w => sl_toE w (some ⟨xb, 0, none⟩) (len + 1) xc len hxc; replace R0 := hide ((unhide R0).below hB4); clear Ho1 hR hC ho4 hg4 hg1 hB1))
      refine (unhide (n1 _ _ (unhide RT))).mono ?_
      rintro e W5 ⟨rfl, hB1⟩
      replace R0 := hide ((unhide R0).below hB1)
      replace RT := hide ((unhide RT).below hB1)
      replace C7 := hide (cell_below (unhide C7) hB1)
      have hB := bnext hB4 hB1
      clear hB1 hB4 n1
      go_wp2_with fail
      refine (unhide (n2 _ (unhide R0))).mono ?_
      rintro e W6 ⟨gv, rfl, hB1⟩
      replace R0 := hide ((unhide R0).below hB1)
      replace RT := hide ((unhide RT).below hB1)
      replace C7 := hide (cell_below (unhide C7) hB1)
      replace hB := bnext hB hB1
      clear hB1 n2
      go_wp2_with fail
      refine (unhide (n3 _ _ (unhide RT))).mono ?_
      rintro e W7 ⟨u7, rfl, ho7, hB1⟩
      have R7 := hide (RE.of_owns ho7)
      replace R0 := hide ((unhide R0).below hB1)
      replace RT := hide ((unhide RT).below hB1)
      replace C7 := hide (cell_below (unhide C7) hB1)
      replace hB := bnext hB hB1
      clear hB1 n3 ho7
      go_wp2_with fail
      refine (unhide (n4 _ (unhide R0))).mono ?_
      rintro e W8 ⟨u8, rfl, hr8, hB1⟩
      have R8 := hide hr8
      replace R7 := hide ((unhide R7).below hB1)
      replace R0 := hide ((unhide R0).below hB1)
      replace RT := hide ((unhide RT).below hB1)
      replace C7 := hide (cell_below (unhide C7) hB1)
      replace hB := bnext hB hB1
      clear hB1 n4 hr8
      go_wp2_with fail
      refine (eqE_in m m u7 u8 _ (unhide R7) (unhide R8) hml hml).mono ?_
      rintro e W9 ⟨rfl, k9, rfl⟩
      rw [show decide (m = m) = true by simp]
      have hdr : Below W8.heap.size W8 (W8.drewN k9) := bdrew (Below.refl _ _) k9
      replace R0 := hide ((unhide R0).below hdr)
      replace RT := hide ((unhide RT).below hdr)
      replace C7 := hide (cell_below (unhide C7) hdr)
      replace hB := bnext hB hdr
      clear R7 R8 hdr
      go_wp2_with fail
      refine (unhide (n5 _ _ (unhide RT))).mono ?_
      rintro e W10 ⟨rfl, hB1⟩
      replace R0 := hide ((unhide R0).below hB1)
      replace RT := hide ((unhide RT).below hB1)
      replace C7 := hide (cell_below (unhide C7) hB1)
      replace hB := bnext hB hB1
      clear hB1 n5
      go_wp2_with fail
      refine (unhide (n6 _ (unhide R0))).mono ?_
      rintro e W11 ⟨rfl, hB1⟩
      replace R0 := hide ((unhide R0).below hB1)
      replace RT := hide ((unhide RT).below hB1)
      replace C7 := hide (cell_below (unhide C7) hB1)
      replace hB := bnext hB hB1
      clear hB1 n6
      go_wp2_with fail
      refine (eqE_in l l _ _ _ (unhide RT) (unhide R0) hl9 hl9).mono ?_
      rintro e W12 ⟨rfl, k12, rfl⟩
      rw [show decide (l = l) = true by simp]
      have hdr : Below W11.heap.size W11 (W11.drewN k12) := bdrew (Below.refl _ _) k12
      replace C7 := hide (cell_below (unhide C7) hdr)
      replace hB := bnext hB hdr
      clear R0 RT hdr
      have c7 := unhide C7
      have i7 : (len : Int) < ((len + 1 : Nat) : Int) := by omega
      go_wp2_with fail
      refine (unhide (hkn _)).mono ?_
      rintro e W13 ⟨rfl, hB1⟩
      go_wp2
      go_ret
      exact ⟨rfl, bnext hB hB1⟩

theorem own : ownKnob Try.prog.godebug = none := by kernel_rfl
theorem laidOut : laidOutB Try.prog = true := by kernel_rfl

set_option maxRecDepth 100000 in
theorem lifted (os : Os) (started : os.Started) (H : Type) (enc : TypeId × Value → H) :
    ReturnsInHanded {} Try.checked os 5 .any (Rows.diffAppliesSpec.pre6 enc Try.prog Try.f5 Rows.diffAppliesRow.domain false) (Rows.diffAppliesSpec.post enc Try.prog Try.f5 false true false false) := by
  refine returnsInHanded_of_change (C := Try.checked) own started (by kernel_rfl) Try.func5
    (ChangeSpec.witness6 (enc := enc) (C := Try.checked) false ⟨#[], #[.string ByteArray.empty, .slice none 0 0], []⟩ 8 (by kernel_rfl) (by kernel_rfl) (by kernel_rfl) (by kernel_rfl)) ?_
  intro W base args ds gs before hval0 hW hcnd _
  have hval : ∀ (j : Nat) t v, Try.f5.params[j]? = some t → args[j]? = some v → Value.okWide Try.prog W .any base t v := hval0
  have hW' := hW
  obtain ⟨p, q, hA0, hV, rfl, hfz, hnd⟩ := hW
  have hA : DataW.TrodAll enc Try.prog W 0 (fun _ => true) true Try.f5.params.toList args.toList ds p := hA0
  rw [Try.params5] at hA hval
  obtain ⟨v0, vs0, d0, ds0, p0, q0, hargs, rfl, rfl, h0, r0⟩ := trodAll_cons hA
  obtain ⟨v1, vs1, d1, ds1, p1, q1, rfl, rfl, rfl, h1, r1⟩ := trodAll_cons r0
  obtain ⟨rfl, rfl, rfl⟩ := trodAll_nil r1
  obtain rfl : args = #[v0, v1] := by cases args; simp_all
  obtain ⟨rfl, rfl⟩ := trodVars_none hV
  obtain ⟨a0, rfl, rfl, rfl, w0⟩ := open_string Try.underlying9 (hval 0 9 v0 rfl rfl) h0
  obtain ⟨a1, len1, cap1, rfl⟩ := okWide_slice Try.underlying23 (hval 1 23 v1 rfl rfl)
  have k1 := h1
  have lt1 : ∀ x ∈ p1, x.block < W.heap.size := by obtain ⟨m, hm⟩ := k1; exact DataW.trod_lt m _ _ _ hm
  obtain ⟨z1, w1⟩ : ∃ l : List Ed, RE W (.slice a1 len1 cap1) l ∧ l.length = len1 ∧ len1 ≤ maxLen ∧ ∀ e ∈ l, EdIn e := by
    obtain ⟨fuel, hf⟩ := h1
    simp only [Value.cells] at hf
    exact open_eds hf
  clear hA0 hval0
  refine (walk a0 a1 len1 cap1 z1 W w0 w1).mono fun e W' ⟨he, bel⟩ => ?_
  subst he
  exact ⟨_, rfl, _, _, _, [], _, [], hW', trodAll_mk1 (shut_bool Try.underlying4 _), (trodAll_cons_mk (shut_string Try.underlying9 w0) (trodAll_cons_mk (Below.trod laidOut (by kernel_rfl) (of_decide_eq_true (by kernel_rfl)) k1 bel lt1) trodAll_mk0)), rfl, bel.frame _, fun h => by cases h⟩

theorem over : Rows.diffAppliesRow.holds Try.pinned (OpenSpec.ofChange Rows.diffAppliesSpec) :=
  OpenClaim.holds_of_wide 5 Try.f5 rfl rfl rfl rfl rfl rfl rfl ⟨rfl, rfl, rfl, rfl, rfl⟩ rfl rfl rfl rfl rfl (by kernel_rfl) Try.func5 (by kernel_rfl)
    (of_decide_eq_true (by kernel_rfl)) (by unfold Func.isWrapper; first | (rw [if_pos (by decide +kernel)]; kernel_rfl) | (rw [if_neg (by decide +kernel)]; exact ⟨rfl, rfl⟩))
    (fun os started H enc _ => lifted os started H enc)

end LDiffApplies

theorem diffApplies_holds : Rows.DiffAppliesSaid := LDiffApplies.over

end Go.Proofs.Ytlbgfcbhpmhhpaa
