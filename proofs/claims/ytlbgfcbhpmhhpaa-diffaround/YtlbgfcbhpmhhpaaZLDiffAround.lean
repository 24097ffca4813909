/-
  Chapter 5's law DiffAround returns true for every three texts, and leaves its arguments as they were; no condition.
-/
import Derived.Test.YtlbgfcbhpmhhpaaRows
import Derived.WalkKit
import Derived.ProofKit
import Derived.OpenShut
import Derived.ShutString
import Derived.ChangeOld
import Derived.Below
import Derived.Test.YtlbgfcbhpmhhpaaZDR
set_option linter.unusedVariables false
set_option linter.unusedSimpArgs false
namespace Go.Proofs.Ytlbgfcbhpmhhpaa
namespace LDiffAround
open Go.ChangeShapes Go.WideShapes Go.ChangeAt Go.RowKit Go.Lib
open Go.ChangeMaps (open_string shut_string)

/-- runes as they are -/
def Fix (X : List Int) : Prop := X.map (fun n => (fixN n : Int)) = X
theorem Fix.take {X : List Int} (h : Fix X) (n : Nat) : Fix (X.take n) := by unfold Fix at h ⊢; rw [List.map_take, h]
theorem Fix.append {X Y : List Int} (h : Fix X) (k : Fix Y) : Fix (X ++ Y) := by unfold Fix at *; rw [List.map_append, h, k]

theorem make_laid (X Y : List Int) (hX : Fix X) (hY : Fix Y) (lx : X.length ≤ 400) (ly : Y.length ≤ 400) (w : World) :
    Calls Try.prog 10 #[.string (runesBytes X), .string (runesBytes Y)] w fun e W => ∃ a cap, e = .returned (.tuple #[.slice a (mkL X Y).length cap, .int .i64 0]) ∧ RE W (.slice a (mkL X Y).length cap) (mkL X Y) ∧ Below w.heap.size w W := by
  have z1 := runesBytes_size X
  have z2 := runesBytes_size Y
  refine (make_in (runesBytes X) (runesBytes Y) (by omega) (by omega) w).mono ?_
  rintro e W ⟨v, rfl, ho, hB⟩
  have he : mkErr (runesBytes X) (runesBytes Y) = 0 := by
    unfold mkErr
    rw [good_laid, good_laid, count_laid, count_laid]
    simp only [Bool.and_true, if_true]
    rw [if_neg (by omega)]
  have hr : mkRes (runesBytes X) (runesBytes Y) = mkL X Y := by
    unfold mkRes
    rw [he, if_pos rfl, runeL_laid, runeL_laid, hX, hY]
  rw [hr] at ho
  rw [he]
  have hre := RE.of_owns ho
  obtain ⟨a, cap, rfl⟩ := hre.form
  exact ⟨a, cap, rfl, hre, hB⟩
theorem wt_laid (X Y : List Int) (lx : X.length ≤ 400) (ly : Y.length ≤ 400) (v : Value) (w : World) (h : RE w v (mkL X Y)) :
    Calls Try.prog 18 #[v] w fun e W => e = .returned (.int .i64 (lev X Y : Nat)) ∧ Below w.heap.size w W := by
  have hc := mkL_count X Y
  refine (weight_in (mkL X Y) v w h (by omega) (mkL_ok X Y (by omega) (by omega))).mono ?_
  rintro e W ⟨rfl, hB⟩
  rw [wt_mkL X Y (by omega) (by omega)]
  exact ⟨rfl, hB⟩
theorem cut_mend (s : ByteArray) (hs : s.size ≤ 1200) (w : World) :
    Calls Try.prog 23 #[.string (runesBytes (runeL s)), .int .i64 120] w fun e W => ∃ R, e = .returned (.tuple #[.string (runesBytes ((runeL s).take 120)), .string R]) ∧ Below w.heap.size w W := by
  have z1 := runesBytes_size (runeL s)
  have hl := runeL_length s
  have hl2 := allL_length s
  refine (cut_in (runesBytes (runeL s)) 120 (by omega) (by omega) (by omega) w).mono ?_
  rintro e W ⟨rfl, hB⟩
  rw [(cut_laid (runeL s) 120).1]
  exact ⟨_, rfl, hB⟩

set_option maxRecDepth 100000 in
set_option maxHeartbeats 8000000 in
theorem inner (a b c : ByteArray) (ha : a.size ≤ 1200) (hb : b.size ≤ 1200) (hc : c.size ≤ 1200) (W : World) :
    Calls Try.prog 8 #[.string a, .string b, .string c] W fun e W' => e = .returned (.bool true) ∧ Below W.heap.size W W' := by
  have d1 : decide ((1200 : Int) < ((a.size : Nat) : Int)) = false := by rw [decide_eq_false_iff_not]; omega
  have d2 : decide ((1200 : Int) < ((b.size : Nat) : Int)) = false := by rw [decide_eq_false_iff_not]; omega
  have d3 : decide ((1200 : Int) < ((c.size : Nat) : Int)) = false := by rw [decide_eq_false_iff_not]; omega
  have m1 := fun W => hide (mend_in a (by omega) W)
  have m2 := fun W => hide (mend_in b (by omega) W)
  have m3 := fun W => hide (mend_in c (by omega) W)
  have k1 := fun W => hide (cut_mend a ha W)
  have k2 := fun W => hide (cut_mend b hb W)
  have k3 := fun W => hide (cut_mend c hc W)
  have fA : Fix ((runeL a).take 120) := (show Fix (runeL a) from runeL_fix a).take 120
  have fB : Fix ((runeL b).take 120) := (show Fix (runeL b) from runeL_fix b).take 120
  have fC : Fix ((runeL c).take 120) := (show Fix (runeL c) from runeL_fix c).take 120
  have lA : ((runeL a).take 120).length ≤ 120 := by simp; omega
  have lB : ((runeL b).take 120).length ≤ 120 := by simp; omega
  have lC : ((runeL c).take 120).length ≤ 120 := by simp; omega
  generalize (runeL a).take 120 = A at *
  generalize (runeL b).take 120 = B at *
  generalize (runeL c).take 120 = C at *
  generalize runesBytes (runeL a) = a' at *
  generalize runesBytes (runeL b) = b' at *
  generalize runesBytes (runeL c) = c' at *
  have zA := runesBytes_size A
  have zB := runesBytes_size B
  have zC := runesBytes_size C
  have e1 := hide (runesBytes_append (C ++ A) C)
  have e2 := hide (runesBytes_append C A)
  have e3 := hide (runesBytes_append (C ++ B) C)
  have e4 := hide (runesBytes_append C B)
  have n1 := fun W => hide (make_laid A A fA fA (by omega) (by omega) W)
  have n2 := fun W => hide (make_laid A B fA fB (by omega) (by omega) W)
  have n3 := fun W => hide (make_laid B A fB fA (by omega) (by omega) W)
  have n4 := fun W => hide (make_laid A C fA fC (by omega) (by omega) W)
  have n5 := fun W => hide (make_laid C B fC fB (by omega) (by omega) W)
  have n6 := fun W => hide (make_laid (C ++ A ++ C) (C ++ B ++ C) ((fC.append fA).append fC) ((fC.append fB).append fC) (by simp; omega) (by simp; omega) W)
  have hself := mkL_self A
  simp only [hself] at n1
  have s1 := lev_sym B A
  have s2 := lev_tri A C B
  have s3 : lev (C ++ A ++ C) (C ++ B ++ C) = lev A B := by rw [lev_post, lev_pre]
  have t1 := lev_le A B
  have t2 := lev_le A C
  have t3 := lev_le C B
  have w1 := fun v W h => hide (wt_laid A B (by omega) (by omega) v W h)
  have w2 := fun v W h => hide (wt_laid B A (by omega) (by omega) v W h)
  have w3 := fun v W h => hide (wt_laid A C (by omega) (by omega) v W h)
  have w4 := fun v W h => hide (wt_laid C B (by omega) (by omega) v W h)
  have w5 := fun v W h => hide (wt_laid (C ++ A ++ C) (C ++ B ++ C) (by simp; omega) (by simp; omega) v W h)
  rw [s1] at w2
  rw [s3] at w5
  generalize hl1 : lev A B = l1 at *
  generalize hl2 : lev A C = l2 at *
  generalize hl3 : lev C B = l3 at *
  clear fA fB fC hself s1 s3 hl1 hl2 hl3
  rw [unhide e1, unhide e2, unhide e3, unhide e4] at n6
  generalize mkL A B = L1 at *
  generalize mkL B A = L2 at *
  generalize mkL A C = L3 at *
  generalize mkL C B = L4 at *
  generalize mkL (C ++ A ++ C) (C ++ B ++ C) = L5 at *
  generalize runesBytes A = sA at *
  generalize runesBytes B = sB at *
  generalize runesBytes C = sC at *
  clear e1 e2 e3 e4
  go_enter Try.func8, Try.ntmps8
  go_wp2_with fail
  refine (unhide (m1 _)).mono ?_
  rintro e W1 ⟨rfl, hB1⟩
  go_wp2_with fail
  refine (unhide (k1 _)).mono ?_
  rintro e W2 ⟨R2, rfl, hB2⟩
  have hB := bnext hB1 hB2
  clear hB1 hB2 m1 k1
  go_wp2_with fail
  refine (unhide (m2 _)).mono ?_
  rintro e W3 ⟨rfl, hB1⟩
  go_wp2_with fail
  refine (unhide (k2 _)).mono ?_
  rintro e W4 ⟨R4, rfl, hB2⟩
  replace hB := bnext (bnext hB hB1) hB2
  clear hB1 hB2 m2 k2
  go_wp2_with fail
  refine (unhide (m3 _)).mono ?_
  rintro e W5 ⟨rfl, hB1⟩
  go_wp2_with fail
  refine (unhide (k3 _)).mono ?_
  rintro e W6 ⟨R6, rfl, hB2⟩
  replace hB := bnext (bnext hB hB1) hB2
  clear hB1 hB2 m3 k3
  go_wp2_with fail
  refine (unhide (n1 _)).mono ?_
  rintro e W7 ⟨a7, p7, rfl, _, hB1⟩
  replace hB := bnext hB hB1
  clear hB1 n1
  go_wp2_with fail
  refine (unhide (n2 _)).mono ?_
  rintro e W8 ⟨a8, p8, rfl, r1, hB1⟩
  replace hB := bnext hB hB1
  have R1 := hide r1
  clear hB1 n2 r1
  go_wp2_with fail
  refine (unhide (n3 _)).mono ?_
  rintro e W9 ⟨a9, p9, rfl, r2, hB1⟩
  replace hB := bnext hB hB1
  have R2' := hide r2
  replace R1 := hide ((unhide R1).below hB1)
  clear hB1 n3 r2
  go_wp2_with fail
  refine (unhide (n4 _)).mono ?_
  rintro e W10 ⟨a10, p10, rfl, r3, hB1⟩
  replace hB := bnext hB hB1
  have R3 := hide r3
  replace R1 := hide ((unhide R1).below hB1)
  replace R2' := hide ((unhide R2').below hB1)
  clear hB1 n4 r3
  go_wp2_with fail
  refine (unhide (n5 _)).mono ?_
  rintro e W11 ⟨a11, p11, rfl, r4, hB1⟩
  replace hB := bnext hB hB1
  have R4' := hide r4
  replace R1 := hide ((unhide R1).below hB1)
  replace R2' := hide ((unhide R2').below hB1)
  replace R3 := hide ((unhide R3).below hB1)
  clear hB1 n5 r4
  go_wp2_with fail
  refine (unhide (n6 _)).mono ?_
  rintro e W12 ⟨a12, p12, rfl, r5, hB1⟩
  replace hB := bnext hB hB1
  have R5 := hide r5
  replace R1 := hide ((unhide R1).below hB1)
  replace R2' := hide ((unhide R2').below hB1)
  replace R3 := hide ((unhide R3).below hB1)
  replace R4' := hide ((unhide R4').below hB1)
  clear hB1 n6 r5
  go_wp2_with fail
  refine (unhide (w1 _ _ (unhide R1))).mono ?_
  rintro e W13 ⟨rfl, hB1⟩
  replace hB := bnext hB hB1
  replace R2' := hide ((unhide R2').below hB1)
  replace R3 := hide ((unhide R3).below hB1)
  replace R4' := hide ((unhide R4').below hB1)
  replace R5 := hide ((unhide R5).below hB1)
  clear hB1 w1 R1
  simp only [List.length_nil]
  go_wp2_with fail
  refine (unhide (w2 _ _ (unhide R2'))).mono ?_
  rintro e W14 ⟨rfl, hB1⟩
  replace hB := bnext hB hB1
  replace R3 := hide ((unhide R3).below hB1)
  replace R4' := hide ((unhide R4').below hB1)
  replace R5 := hide ((unhide R5).below hB1)
  clear hB1 w2 R2'
  go_wp2_with fail
  refine (unhide (w3 _ _ (unhide R3))).mono ?_
  rintro e W15 ⟨rfl, hB1⟩
  replace hB := bnext hB hB1
  replace R4' := hide ((unhide R4').below hB1)
  replace R5 := hide ((unhide R5).below hB1)
  clear hB1 w3 R3
  go_wp2_with fail
  refine (unhide (w4 _ _ (unhide R4'))).mono ?_
  rintro e W16 ⟨rfl, hB1⟩
  replace hB := bnext hB hB1
  replace R5 := hide ((unhide R5).below hB1)
  clear hB1 w4 R4'
  have hle : decide ((l1 : Int) ≤ (l2 : Int) + (l3 : Int)) = true := by rw [decide_eq_true_iff]; omega
  go_wp2_with fail
  refine (unhide (w5 _ _ (unhide R5))).mono ?_
  rintro e W17 ⟨rfl, hB1⟩
  replace hB := bnext hB hB1
  clear hB1 w5 R5
  go_wp2_with fail
  refine (known_in _).mono ?_
  rintro e W18 ⟨rfl, hB1⟩
  go_wp2
  go_ret
  exact ⟨rfl, bnext hB hB1⟩

set_option maxRecDepth 100000 in
set_option maxHeartbeats 4000000 in
theorem walk (a b c : ByteArray) (w0 : a.size ≤ maxLen) (w1 : b.size ≤ maxLen) (w2 : c.size ≤ maxLen) (W : World) :
    Calls Try.prog 8 #[.string a, .string b, .string c] W fun e W' => e = .returned (.bool true) ∧ Below W.heap.size W W' := by
  unfold maxLen at w0 w1 w2
  have hkn := fun W => hide (known_in W)
  by_cases h1 : 1200 < a.size
  · have d1 : decide ((1200 : Int) < ((a.size : Nat) : Int)) = true := by rw [decide_eq_true_iff]; omega
    go_enter Try.func8, Try.ntmps8
    go_wp2_with (go_at_call 9; refine (unhide (hkn _)).mono ?_; rintro e w' ⟨rfl, hB⟩)
    go_ret
    exact ⟨rfl, hB⟩
  · by_cases h2 : 1200 < b.size
    · have d1 : decide ((1200 : Int) < ((a.size : Nat) : Int)) = false := by rw [decide_eq_false_iff_not]; omega
      have d2 : decide ((1200 : Int) < ((b.size : Nat) : Int)) = true := by rw [decide_eq_true_iff]; omega
      go_enter Try.func8, Try.ntmps8
      go_wp2_with (go_at_call 9; refine (unhide (hkn _)).mono ?_; rintro e w' ⟨rfl, hB⟩)
      go_ret
      exact ⟨rfl, hB⟩
    · by_cases h3 : 1200 < c.size
      · have d1 : decide ((1200 : Int) < ((a.size : Nat) : Int)) = false := by rw [decide_eq_false_iff_not]; omega
        have d2 : decide ((1200 : Int) < ((b.size : Nat) : Int)) = false := by rw [decide_eq_false_iff_not]; omega
        have d3 : decide ((1200 : Int) < ((c.size : Nat) : Int)) = true := by rw [decide_eq_true_iff]; omega
        go_enter Try.func8, Try.ntmps8
        go_wp2_with (go_at_call 9; refine (unhide (hkn _)).mono ?_; rintro e w' ⟨rfl, hB⟩)
        go_ret
        exact ⟨rfl, hB⟩
      · exact inner a b c (by omega) (by omega) (by omega) W

theorem own : ownKnob Try.prog.godebug = none := by kernel_rfl

set_option maxRecDepth 100000 in
theorem lifted (os : Os) (started : os.Started) (H : Type) (enc : TypeId × Value → H) :
    ReturnsInHanded {} Try.checked os 8 .any (Rows.diffAroundSpec.pre6 enc Try.prog Try.f8 Rows.diffAroundRow.domain false) (Rows.diffAroundSpec.post enc Try.prog Try.f8 false true false false) := by
  refine returnsInHanded_of_change (C := Try.checked) own started (by kernel_rfl) Try.func8
    (ChangeSpec.witness6 (enc := enc) (C := Try.checked) false ⟨#[], #[.string ByteArray.empty, .string ByteArray.empty, .string ByteArray.empty], []⟩ 8 (by kernel_rfl) (by kernel_rfl) (by kernel_rfl) (by kernel_rfl)) ?_
  intro W base args ds gs before hval0 hW hcnd _
  have hval : ∀ (j : Nat) t v, Try.f8.params[j]? = some t → args[j]? = some v → Value.okWide Try.prog W .any base t v := hval0
  have hW' := hW
  obtain ⟨p, q, hA0, hV, rfl, hfz, hnd⟩ := hW
  have hA : DataW.TrodAll enc Try.prog W 0 (fun _ => true) true Try.f8.params.toList args.toList ds p := hA0
  rw [Try.params8] at hA hval
  obtain ⟨v0, vs0, d0, ds0, p0, q0, hargs, rfl, rfl, h0, r0⟩ := trodAll_cons hA
  obtain ⟨v1, vs1, d1, ds1, p1, q1, rfl, rfl, rfl, h1, r1⟩ := trodAll_cons r0
  obtain ⟨v2, vs2, d2, ds2, p2, q2, rfl, rfl, rfl, h2, r2⟩ := trodAll_cons r1
  obtain ⟨rfl, rfl, rfl⟩ := trodAll_nil r2
  obtain rfl : args = #[v0, v1, v2] := by cases args; simp_all
  obtain ⟨rfl, rfl⟩ := trodVars_none hV
  obtain ⟨a0, rfl, rfl, rfl, w0⟩ := open_string Try.underlying9 (hval 0 9 v0 rfl rfl) h0
  obtain ⟨a1, rfl, rfl, rfl, w1⟩ := open_string Try.underlying9 (hval 1 9 v1 rfl rfl) h1
  obtain ⟨a2, rfl, rfl, rfl, w2⟩ := open_string Try.underlying9 (hval 2 9 v2 rfl rfl) h2
  clear hA0 hval0
  simp only [List.append_nil] at hW'
  refine (walk a0 a1 a2 w0 w1 w2 W).mono fun e W' ⟨he, bel⟩ => ?_
  subst he
  exact ⟨_, rfl, _, _, _, [], _, [], hW', trodAll_mk1 (shut_bool Try.underlying4 _), (trodAll_cons_mk (shut_string Try.underlying9 w0) (trodAll_cons_mk (shut_string Try.underlying9 w1) (trodAll_cons_mk (shut_string Try.underlying9 w2) trodAll_mk0))), rfl, bel.frame _, fun h => by cases h⟩

theorem over : Rows.diffAroundRow.holds Try.pinned (OpenSpec.ofChange Rows.diffAroundSpec) :=
  OpenClaim.holds_of_wide 8 Try.f8 rfl rfl rfl rfl rfl rfl rfl ⟨rfl, rfl, rfl, rfl, rfl⟩ rfl rfl rfl rfl rfl (by kernel_rfl) Try.func8 (by kernel_rfl)
    (of_decide_eq_true (by kernel_rfl)) (by unfold Func.isWrapper; first | (rw [if_pos (by decide +kernel)]; kernel_rfl) | (rw [if_neg (by decide +kernel)]; exact ⟨rfl, rfl⟩))
    (fun os started H enc _ => lifted os started H enc)

end LDiffAround

theorem diffAround_holds : Rows.DiffAroundSaid := LDiffAround.over

end Go.Proofs.Ytlbgfcbhpmhhpaa
