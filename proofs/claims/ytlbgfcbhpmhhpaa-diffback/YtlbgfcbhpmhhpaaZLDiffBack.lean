/-
  Chapter 5's law DiffBack returns true for every text and every change, and leaves its arguments as they were; no condition.
-/
import Derived.Test.YtlbgfcbhpmhhpaaRows
import Derived.WalkKit
import Derived.ProofKit
import Derived.OpenShut
import Derived.ShutString
import Derived.ChangeOld
import Derived.Below
import Derived.Test.YtlbgfcbhpmhhpaaZH1
set_option linter.unusedVariables false
set_option linter.unusedSimpArgs false
namespace Go.Proofs.Ytlbgfcbhpmhhpaa
namespace LDiffBack
open Go.ChangeShapes Go.WideShapes Go.ChangeAt Go.RowKit Go.Lib
open Go.ChangeMaps (open_string shut_string)

set_option maxRecDepth 100000 in
set_option maxHeartbeats 8000000 in
theorem walk (a : ByteArray) (ad : Option Addr) (len cap : Nat) (l : List Ed) (W : World) (w0 : a.size ≤ maxLen) (w1 : RE W (.slice ad len cap) l ∧ l.length = len ∧ len ≤ maxLen ∧ ∀ e ∈ l, EdIn e) :
    Calls Try.prog 7 #[.string a, .slice ad len cap] W fun e W' => e = .returned (.bool true) ∧ Below W.heap.size W W' := by
  obtain ⟨hre, hll, hlm, hin⟩ := w1
  have hkn := fun W => hide (known_in W)
  have hhv := hide (heavy_in l _ W hre (by omega) hin)
  unfold maxLen at w0 hlm
  by_cases h1 : 8000 < a.size
  · have d1 : decide ((8000 : Int) < ((a.size : Nat) : Int)) = true := by rw [decide_eq_true_iff]; omega
    clear hre hin
    go_enter Try.func7, Try.ntmps7
    go_wp2_with fail
    refine (unhide (hkn _)).mono ?_
    rintro e W1 ⟨rfl, hB⟩
    go_wp2
    go_ret
    exact ⟨rfl, hB⟩
  · have d1 : decide ((8000 : Int) < ((a.size : Nat) : Int)) = false := by rw [decide_eq_false_iff_not]; omega
    cases hv : hvB l with
    | true =>
      rw [hv] at hhv
      clear hre hin hv
      go_enter Try.func7, Try.ntmps7
      go_wp2_with fail
      refine (unhide hhv).mono ?_
      rintro e W0 ⟨rfl, rfl⟩
      go_wp2_with fail
      refine (unhide (hkn _)).mono ?_
      rintro e W1 ⟨rfl, hB⟩
      go_wp2
      go_ret
      exact ⟨rfl, hB⟩
    | false =>
      rw [hv] at hhv
      obtain ⟨hl3, hs8⟩ := hvB_ok hv
      have hok : ∀ e ∈ l, EdOk e := fun e he => by
        obtain ⟨k1, k2, k3, k4, _⟩ := hin e he
        have := szL_mem l e he
        exact ⟨k1, k2, k3, k4, by omega⟩
      have hal := apW_len l a
      have n1 := fun W h => hide (apply_in a l (.slice ad len cap) W h (by omega) (by omega) hok (by omega))
      have n2 := fun W h => hide (invert_in a l (.slice ad len cap) W h (by omega) (by omega) hok)
      have R0 := hide hre
      by_cases hz : chk a l = 0
      · obtain ⟨b1, b2, b3, b4⟩ := back_ok a l hz
        have hac := allL_length a
        have b4' := b4 (by omega)
        have hmo := ivL_ok l a (by omega) hok
        have hml : (ivL a l).length = l.length := ivL_length a l
        have hsz := szL_iv l a
        have hbz : (ofL (apW a l)).size ≤ 16000 := by rw [ofL_size]; omega
        have hal2 := apW_len (ivL a l) (ofL (apW a l))
        rw [hz, if_pos rfl] at n1
        simp only [hz, if_true] at n2
        have n3 := fun v W h => hide (apply_in (ofL (apW a l)) (ivL a l) v W h (by omega) (by omega) hmo (by omega))
        have n4 := fun v W h => hide (invert_in (ofL (apW a l)) (ivL a l) v W h (by omega) (by omega) hmo)
        rw [b1, if_pos rfl, b2] at n3
        simp only [b1, b3, if_true] at n4
        have n5 := fun v W h => hide (weight_in (ivL a l) v W h (by omega) hmo)
        have n6 := fun v W h => hide (weight_in l v W h (by omega) hok)
        rw [b4'] at n5
        have haa : (a.toList == a.toList) = true := by simp
        generalize wtL 0 l = wt at *
        generalize ofL (apW a l) = b at *
        generalize ivL a l = m at *
        have hl9 : l.length ≤ 1000000000 := by omega
        have hww : (wt == wt) = true := by simp
        clear b1 b2 b3 b4 b4' hz hmo hok hre hin hal hal2 hbz hsz hv
        go_enter Try.func7, Try.ntmps7
        go_wp2_with fail
        refine (unhide hhv).mono ?_
        rintro e W0 ⟨rfl, rfl⟩
        go_wp2_with fail
        refine (unhide (n1 _ (unhide R0))).mono ?_
        rintro e W1 ⟨rfl, hB1⟩
        replace R0 := hide ((unhide R0).below hB1)
        go_wp2_with fail
        refine (unhide (n2 _ (unhide R0))).mono ?_
        rintro e W2 ⟨u2, rfl, ho2, hB2⟩
        have R2 := hide (RE.of_owns ho2)
        replace R0 := hide ((unhide R0).below hB2)
        have hB := bnext hB1 hB2
        clear hB1 hB2 ho2 n1 n2
        go_wp2_with fail
        refine (unhide (n3 _ _ (unhide R2))).mono ?_
        rintro e W3 ⟨rfl, hB1⟩
        replace R0 := hide ((unhide R0).below hB1)
        replace R2 := hide ((unhide R2).below hB1)
        replace hB := bnext hB hB1
        clear hB1 n3
        go_wp2_with fail
        refine (unhide (n4 _ _ (unhide R2))).mono ?_
        rintro e W4 ⟨u4, rfl, ho4, hB1⟩
        have R4 := hide (RE.of_owns ho4)
        replace R0 := hide ((unhide R0).below hB1)
        replace R2 := hide ((unhide R2).below hB1)
        replace hB := bnext hB hB1
        clear hB1 n4 ho4
        go_wp2_with fail
        refine (eqE_in l l u4 _ _ (unhide R4) (unhide R0) hl9 hl9).mono ?_
        rintro e W5 ⟨rfl, n5', rfl⟩
        rw [show decide (l = l) = true by simp]
        have hdr : Below W4.heap.size W4 (W4.drewN n5') := bdrew (Below.refl _ _) n5'
        replace R0 := hide ((unhide R0).below hdr)
        replace R2 := hide ((unhide R2).below hdr)
        replace hB := bnext hB hdr
        clear R4 hdr
        go_wp2_with fail
        refine (unhide (n5 _ _ (unhide R2))).mono ?_
        rintro e W6 ⟨rfl, hB1⟩
        replace R0 := hide ((unhide R0).below hB1)
        replace hB := bnext hB hB1
        clear hB1 n5 R2
        go_wp2_with fail
        refine (unhide (n6 _ _ (unhide R0))).mono ?_
        rintro e W7 ⟨rfl, hB1⟩
        replace hB := bnext hB hB1
        clear hB1 n6 R0
        go_wp2_with fail
        refine (unhide (hkn _)).mono ?_
        rintro e W8 ⟨rfl, hB1⟩
        go_wp2
        go_ret
        exact ⟨rfl, bnext hB hB1⟩
      · rw [if_neg hz] at n1
        simp only [if_neg hz] at n2
        have hzd : ((chk a l) != 0) = true := by rw [bne_iff_ne]; exact hz
        have hee : ((chk a l) != (chk a l)) = false := by simp
        generalize chk a l = E at *
        clear hok hre hin hal hv hz
        go_enter Try.func7, Try.ntmps7
        go_wp2_with fail
        refine (unhide hhv).mono ?_
        rintro e W0 ⟨rfl, rfl⟩
        go_wp2_with fail
        refine (unhide (n1 _ (unhide R0))).mono ?_
        rintro e W1 ⟨rfl, hB1⟩
        replace R0 := hide ((unhide R0).below hB1)
        go_wp2_with fail
        refine (unhide (n2 _ (unhide R0))).mono ?_
        rintro e W2 ⟨u2, rfl, ho2, hB2⟩
        obtain ⟨a2, p2, rfl⟩ := (RE.of_owns ho2).form
        have hB := bnext hB1 hB2
        clear hB1 hB2 ho2 n1 n2 R0
        simp only [List.length_nil]
        go_wp2_with fail
        refine (unhide (hkn _)).mono ?_
        rintro e W3 ⟨rfl, hB3⟩
        go_wp2
        go_ret
        exact ⟨rfl, bnext hB hB3⟩

theorem own : ownKnob Try.prog.godebug = none := by kernel_rfl
theorem laidOut : laidOutB Try.prog = true := by kernel_rfl

set_option maxRecDepth 100000 in
theorem lifted (os : Os) (started : os.Started) (H : Type) (enc : TypeId × Value → H) :
    ReturnsInHanded {} Try.checked os 7 .any (Rows.diffBackSpec.pre6 enc Try.prog Try.f7 Rows.diffBackRow.domain false) (Rows.diffBackSpec.post enc Try.prog Try.f7 false true false false) := by
  refine returnsInHanded_of_change (C := Try.checked) own started (by kernel_rfl) Try.func7
    (ChangeSpec.witness6 (enc := enc) (C := Try.checked) false ⟨#[], #[.string ByteArray.empty, .slice none 0 0], []⟩ 8 (by kernel_rfl) (by kernel_rfl) (by kernel_rfl) (by kernel_rfl)) ?_
  intro W base args ds gs before hval0 hW hcnd _
  have hval : ∀ (j : Nat) t v, Try.f7.params[j]? = some t → args[j]? = some v → Value.okWide Try.prog W .any base t v := hval0
  have hW' := hW
  obtain ⟨p, q, hA0, hV, rfl, hfz, hnd⟩ := hW
  have hA : DataW.TrodAll enc Try.prog W 0 (fun _ => true) true Try.f7.params.toList args.toList ds p := hA0
  rw [Try.params7] at hA hval
  obtain ⟨v0, vs0, d0, ds0, p0, q0, hargs, rfl, rfl, h0, r0⟩ := trodAll_cons hA
  obtain ⟨v1, vs1, d1, ds1, p1, q1, rfl, rfl, rfl, h1, r1⟩ := trodAll_cons r0
  obtain ⟨rfl, rfl, rfl⟩ := trodAll_nil r1
  obtain rfl : args = #[v0, v1] := by cases args; simp_all
  obtain ⟨rfl, rfl⟩ := trodVars_none hV
  obtain ⟨a0, rfl, rfl, rfl, w0⟩ := open_string Try.underlying9 (hval 0 9 v0 rfl rfl) h0
  obtain ⟨a1, len1, cap1, rfl⟩ := okWide_slice Try.underlying23 (hval 1 23 v1 rfl rfl)
  have k1 := h1
  have lt1 : ∀ x ∈ p1, x.block < W.heap.size := by obtain ⟨m, hm⟩ := k1; exact DataW.trod_lt m _ _ _ hm
  obtain ⟨z1, w1⟩ : ∃ l : List Ed, RE W (.slice a1 len1 cap1) l ∧ l.length = len1 ∧ len1 ≤ maxLen ∧ ∀ e ∈ l, EdIn e := by
    obtain ⟨fuel, hf⟩ := h1
    simp only [Value.cells] at hf
    exact open_eds hf
  clear hA0 hval0
  refine (walk a0 a1 len1 cap1 z1 W w0 w1).mono fun e W' ⟨he, bel⟩ => ?_
  subst he
  exact ⟨_, rfl, _, _, _, [], _, [], hW', trodAll_mk1 (shut_bool Try.underlying4 _), (trodAll_cons_mk (shut_string Try.underlying9 w0) (trodAll_cons_mk (Below.trod laidOut (by kernel_rfl) (of_decide_eq_true (by kernel_rfl)) k1 bel lt1) trodAll_mk0)), rfl, bel.frame _, fun h => by cases h⟩

theorem over : Rows.diffBackRow.holds Try.pinned (OpenSpec.ofChange Rows.diffBackSpec) :=
  OpenClaim.holds_of_wide 7 Try.f7 rfl rfl rfl rfl rfl rfl rfl ⟨rfl, rfl, rfl, rfl, rfl⟩ rfl rfl rfl rfl rfl (by kernel_rfl) Try.func7 (by kernel_rfl)
    (of_decide_eq_true (by kernel_rfl)) (by unfold Func.isWrapper; first | (rw [if_pos (by decide +kernel)]; kernel_rfl) | (rw [if_neg (by decide +kernel)]; exact ⟨rfl, rfl⟩))
    (fun os started H enc _ => lifted os started H enc)

end LDiffBack

theorem diffBack_holds : Rows.DiffBackSaid := LDiffBack.over

end Go.Proofs.Ytlbgfcbhpmhhpaa
