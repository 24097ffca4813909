/-
  Chapter 5's law DiffLeast returns true for every two texts, and leaves its arguments as they were; no condition.
-/
import Derived.Test.YtlbgfcbhpmhhpaaRows
import Derived.WalkKit
import Derived.ProofKit
import Derived.OpenShut
import Derived.ShutString
import Derived.ChangeOld
import Derived.Below
import Derived.Test.YtlbgfcbhpmhhpaaZG1
set_option linter.unusedVariables false
set_option linter.unusedSimpArgs false
namespace Go.Proofs.Ytlbgfcbhpmhhpaa
namespace LDiffLeast
open Go.ChangeShapes Go.WideShapes Go.ChangeAt Go.RowKit Go.Lib
open Go.ChangeMaps (open_string shut_string)

theorem good_all {s : ByteArray} (h : goodB s = true) : ∀ i ∈ allL s, okR s i = true := by
  intro i hi
  cases ho : okR s i with
  | true => rfl
  | false =>
    exfalso
    unfold goodB firstBad at h
    cases hf : (allL s).find? (fun i => !okR s i) with
    | none => have := List.find?_eq_none.1 hf i hi; rw [ho] at this; simp at this
    | some j => rw [hf] at h; simp at h; omega
theorem toList_posL {s : ByteArray} (h : 0 < s.size) : s.toList.isEmpty = false := by
  cases hl : s.toList with
  | nil =>
    have e : s = ⟨#[]⟩ := toList_inj (by rw [hl]; simp [ByteArray.toList_eq])
    rw [e] at h
    exact absurd h (by decide)
  | cons a l => rfl

set_option maxRecDepth 100000 in
set_option maxHeartbeats 8000000 in
theorem inner (X Y : List Int) (fX : X.map (fun n => (fixN n : Int)) = X) (fY : Y.map (fun n => (fixN n : Int)) = Y) (N M : Nat) (nx : X.length = N) (ny : Y.length = M) (hn : N ≤ 400) (hm : M ≤ 400) (W : World) :
    Calls Try.prog 6 #[.string (runesBytes X), .string (runesBytes Y)] W fun e W' => e = .returned (.bool true) ∧ Below W.heap.size W W' := by
  have zX := runesBytes_size X
  have zY := runesBytes_size Y
  have rX : runeL (runesBytes X) = X := by rw [runeL_laid, fX]
  have rY : runeL (runesBytes Y) = Y := by rw [runeL_laid, fY]
  have he : mkErr (runesBytes X) (runesBytes Y) = 0 := by
    unfold mkErr
    rw [good_laid, good_laid, count_laid, count_laid]
    simp only [Bool.and_true, if_true]
    rw [if_neg (by omega)]
  have hr : mkRes (runesBytes X) (runesBytes Y) = mkL X Y := by
    unfold mkRes
    rw [he, if_pos rfl, rX, rY]
  have hcount := mkL_count X Y
  have hokE := mkL_ok X Y (by omega) (by omega)
  have hlead := mkL_leads X Y
  have hchk := mkL_chk X Y (by omega)
  have hap : (apW (runesBytes X) (mkL X Y)).length ≤ 1000000000 := by
    have := congrArg ByteArray.size hlead
    rw [ofL_size] at this
    omega
  have n1 := fun W => hide (make_in (runesBytes X) (runesBytes Y) (by omega) (by omega) W)
  have n2 := fun v W h => hide (apply_in (runesBytes X) (mkL X Y) v W h (by omega) (by omega) hokE hap)
  have n3 := fun v W h => hide (weight_in (mkL X Y) v W h (by omega) hokE)
  rw [wt_mkL X Y (by omega) (by omega)] at n3
  rw [hchk, if_pos rfl, hlead] at n2
  rw [he, hr] at n1
  have n4 := fun W => hide (runes_in (runesBytes X) (by omega) W)
  have n5 := fun W => hide (runes_in (runesBytes Y) (by omega) W)
  rw [rX, nx] at n4
  rw [rY, ny] at n5
  have n6 := fun W => hide (badAt_in (runesBytes X) (by omega) W)
  have n7 := fun W => hide (badAt_in (runesBytes Y) (by omega) W)
  rw [firstBad_none (ok_laid X)] at n6
  rw [firstBad_none (ok_laid Y)] at n7
  have Hform := hide (fun i e h => mkL_form X Y i e h)
  have dX : decide ((8000 : Int) < (((runesBytes X).size : Nat) : Int)) = false := by rw [decide_eq_false_iff_not]; omega
  have dY : decide ((8000 : Int) < (((runesBytes Y).size : Nat) : Int)) = false := by rw [decide_eq_false_iff_not]; omega
  have hbb : ((runesBytes Y).toList == (runesBytes Y).toList) = true := by simp
  have Hnx := hide nx
  have Hny := hide ny
  generalize hL : mkL X Y = L at *
  generalize runesBytes X = a at *
  generalize runesBytes Y = b at *
  have d4 : decide ((400 : Int) < (N : Int)) = false := by rw [decide_eq_false_iff_not]; omega
  have d5 : decide ((400 : Int) < (M : Int)) = false := by rw [decide_eq_false_iff_not]; omega
  have hLn : L.length ≤ 801 := by omega
  clear rX rY he hr hcount hokE hlead hchk hap fX fY nx ny hL
  go_enter Try.func6, Try.ntmps6
  go_wp2_with fail
  refine (unhide (n1 _)).mono ?_
  rintro e W1 ⟨v1, rfl, ho1, hB1⟩
  have hre := RE.of_owns ho1
  obtain ⟨a1, p1, rfl⟩ := hre.form
  have R1 := hide hre
  clear ho1 hre n1
  go_wp2_with fail
  refine (unhide (n4 _)).mono ?_
  rintro e W2 ⟨v2, rfl, ho2, hB2, c2, rfl⟩
  have A2 : RS W2 (.slice (some ⟨W1.heap.size, 0, none⟩) N c2) X := RS.of_owns (by rw [unhide Hnx]; exact ho2)
  have RA := hide A2
  replace R1 := hide ((unhide R1).below hB2)
  have hB := bnext hB1 hB2
  clear ho2 A2 hB1 hB2 n4
  go_wp2_with fail
  refine (unhide (n5 _)).mono ?_
  rintro e W3 ⟨v3, rfl, ho3, hB1, c3, rfl⟩
  have A3 : RS W3 (.slice (some ⟨W2.heap.size, 0, none⟩) M c3) Y := RS.of_owns (by rw [unhide Hny]; exact ho3)
  have RB := hide A3
  replace R1 := hide ((unhide R1).below hB1)
  replace RA := hide (RS.below hB1 (unhide RA))
  replace hB := bnext hB hB1
  clear ho3 A3 hB1 n5
  go_wp2_with fail
  refine (unhide (n6 _)).mono ?_
  rintro e W4 ⟨rfl, hB1⟩
  replace R1 := hide ((unhide R1).below hB1)
  replace RA := hide (RS.below hB1 (unhide RA))
  replace RB := hide (RS.below hB1 (unhide RB))
  replace hB := bnext hB hB1
  clear hB1 n6
  go_wp2_with fail
  refine (unhide (n7 _)).mono ?_
  rintro e W5 ⟨rfl, hB1⟩
  replace R1 := hide ((unhide R1).below hB1)
  replace RA := hide (RS.below hB1 (unhide RA))
  replace RB := hide (RS.below hB1 (unhide RB))
  replace hB := bnext hB hB1
  clear hB1 n7
  go_wp2_with fail
  refine (unhide (n2 _ _ (unhide R1))).mono ?_
  rintro e W6 ⟨rfl, hB1⟩
  replace R1 := hide ((unhide R1).below hB1)
  replace RA := hide (RS.below hB1 (unhide RA))
  replace RB := hide (RS.below hB1 (unhide RB))
  replace hB := bnext hB hB1
  clear hB1 n2
  go_wp2_with fail
  refine (unhide (n3 _ _ (unhide R1))).mono ?_
  rintro e W7 ⟨rfl, hB1⟩
  replace R1 := hide ((unhide R1).below hB1)
  replace RA := hide (RS.below hB1 (unhide RA))
  replace RB := hide (RS.below hB1 (unhide RB))
  replace hB := bnext hB hB1
  clear hB1 n3
  go_wp2_with fail
  refine (longest_in _ X Y N M _ _ _ _ (unhide RA) (unhide RB) (unhide Hnx) (unhide Hny) hn hm).mono ?_
  rintro e W8 ⟨v8, rfl, hv8, hB1⟩
  replace R1 := hide ((unhide R1).below hB1)
  replace hB := bnext hB hB1
  have hlv := lev_le X Y
  generalize lev X Y = lv at *
  have hne : ((lv : Int) != (N : Int) + (M : Int) - 2 * (v8 : Int)) = false := by rw [bne_eq_false_iff_eq]; omega
  have hv8' : v8 ≤ 400 := by omega
  clear hB1 RA RB hv8 hlv
  obtain ⟨LL, hLL⟩ : ∃ LL, L.length = LL := ⟨_, rfl⟩
  rw [hLL] at hLn R1 ⊢
  have HLL := hide hLL
  clear hLL
  go_wp2_with fail
  go_loopw [12] (fun iv wr => ∃ i : Nat, i ≤ LL ∧ iv = .int .i64 (i : Nat) ∧ wr = W8) (fun iv _ => LL - (RowKit.intOf iv).toNat)
  case atStart => exact ⟨0, by omega, rfl, rfl⟩
  case round =>
    obtain ⟨i, hi, rfl, rfl⟩ := hrel
    by_cases hlt : i < LL
    · have hlt' : i < L.length := by rw [unhide HLL]; exact hlt
      rcases unhide R1 with ⟨e0, _⟩ | ⟨bb, off, cap, e0, hc⟩
      · rw [e0] at hlt'; simp at hlt'
      simp only [Value.slice.injEq] at e0
      obtain ⟨rfl, hz0, rfl⟩ := e0
      obtain ⟨x0, x1, x2⟩ := hc i _ (List.getElem?_eq_getElem hlt')
      obtain ⟨f1, f2, f3, f4⟩ := unhide Hform i _ (List.getElem?_eq_getElem hlt')
      have b0 := World.block_lt_of_cell? _ _ x0
      simp only at b0
      generalize L[i] = e at *
      obtain ⟨k, d, t⟩ := e
      simp only at x0 x1 x2 f1 f2 f3 f4
      have i1 : (i : Int) < (LL : Int) := by omega
      have k0 : decide (k < 0) = false := by rw [decide_eq_false_iff_not]; omega
      have k1 : decide (d < 0) = false := by rw [decide_eq_false_iff_not]; omega
      clear hc hz0 hlt'
      by_cases hi0 : 0 < i
      · have f5 := f3 hi0
        have k2 : decide (k < 1) = false := by rw [decide_eq_false_iff_not]; omega
        have k3 : decide ((0 : Int) < (i : Int)) = true := by rw [decide_eq_true_iff]; omega
        have k3' : decide (0 < i) = true := by rw [decide_eq_true_iff]; omega
        by_cases hd0 : d = 0
        · have k4 : (d == 0) = true := by rw [beq_iff_eq]; exact hd0
          have k5 := toList_posL (f4 hd0)
          clear f3 f4 hd0 hi0
          go_wp2
          go_roundw
          case rel => exact ⟨i + 1, by omega, by go_num, by trivial⟩
          case measure => simp [RowKit.intOf]; omega
        · have k4 : (d == 0) = false := by rw [beq_eq_false_iff_ne]; exact hd0
          clear f3 f4 hd0 hi0
          go_wp2
          go_roundw
          case rel => exact ⟨i + 1, by omega, by go_num, by trivial⟩
          case measure => simp [RowKit.intOf]; omega
      · have k3 : decide ((0 : Int) < (i : Int)) = false := by rw [decide_eq_false_iff_not]; omega
        have k3' : decide (0 < i) = false := by rw [decide_eq_false_iff_not]; omega
        by_cases hd0 : d = 0
        · have k4 : (d == 0) = true := by rw [beq_iff_eq]; exact hd0
          have k5 := toList_posL (f4 hd0)
          clear f3 f4 hd0 hi0
          go_wp2
          go_roundw
          case rel => exact ⟨i + 1, by omega, by go_num, by trivial⟩
          case measure => simp [RowKit.intOf]; omega
        · have k4 : (d == 0) = false := by rw [beq_eq_false_iff_ne]; exact hd0
          clear f3 f4 hd0 hi0
          go_wp2
          go_roundw
          case rel => exact ⟨i + 1, by omega, by go_num, by trivial⟩
          case measure => simp [RowKit.intOf]; omega
    · go_wp2_with fail
      refine (known_in _).mono ?_
      rintro e W9 ⟨rfl, hB1⟩
      go_wp2
      go_ret
      exact ⟨rfl, bnext hB hB1⟩

set_option maxRecDepth 100000 in
set_option maxHeartbeats 4000000 in
theorem walk (a b : ByteArray) (w0 : a.size ≤ maxLen) (w1 : b.size ≤ maxLen) (W : World) :
    Calls Try.prog 6 #[.string a, .string b] W fun e W' => e = .returned (.bool true) ∧ Below W.heap.size W W' := by
  unfold maxLen at w0 w1
  have hkn := fun W => hide (known_in W)
  by_cases h1 : 8000 < a.size
  · have d1 : decide ((8000 : Int) < ((a.size : Nat) : Int)) = true := by rw [decide_eq_true_iff]; omega
    go_enter Try.func6, Try.ntmps6
    go_wp2_with (go_at_call 9; refine (unhide (hkn _)).mono ?_; rintro e w' ⟨rfl, hB⟩)
    go_ret
    exact ⟨rfl, hB⟩
  · have d1 : decide ((8000 : Int) < ((a.size : Nat) : Int)) = false := by rw [decide_eq_false_iff_not]; omega
    by_cases h2 : 8000 < b.size
    · have d2 : decide ((8000 : Int) < ((b.size : Nat) : Int)) = true := by rw [decide_eq_true_iff]; omega
      go_enter Try.func6, Try.ntmps6
      go_wp2_with (go_at_call 9; refine (unhide (hkn _)).mono ?_; rintro e w' ⟨rfl, hB⟩)
      go_ret
      exact ⟨rfl, hB⟩
    · have d2 : decide ((8000 : Int) < ((b.size : Nat) : Int)) = false := by rw [decide_eq_false_iff_not]; omega
      have ha := allL_length a
      have hb := allL_length b
      have ma := runeL_length a
      have mb := runeL_length b
      by_cases hg : goodB a = true ∧ goodB b = true
      · by_cases hl : (allL a).length ≤ 400 ∧ (allL b).length ≤ 400
        · have ea := mend_good a (good_all hg.1)
          have eb := mend_good b (good_all hg.2)
          have := inner (runeL a) (runeL b) (runeL_fix a) (runeL_fix b) _ _ rfl rfl (by omega) (by omega) W
          rw [ea, eb] at this
          exact this
        · have he : mkErr a b = 7 := by
            unfold mkErr
            rw [hg.1, hg.2]
            simp only [Bool.and_true, if_true]
            rw [if_pos (by omega)]
          have hr : mkRes a b = [] := by unfold mkRes; rw [he, if_neg (by decide)]
          have n1 := fun W => hide (make_in a b (by omega) (by omega) W)
          rw [he, hr] at n1
          have n4 := fun W => hide (runes_in a (by omega) W)
          have n5 := fun W => hide (runes_in b (by omega) W)
          rw [ma] at n4
          rw [mb] at n5
          have n6 := fun W => hide (badAt_in a (by omega) W)
          have n7 := fun W => hide (badAt_in b (by omega) W)
          rw [firstBad_none (good_all hg.1)] at n6
          rw [firstBad_none (good_all hg.2)] at n7
          generalize (allL a).length = N at *
          generalize (allL b).length = M at *
          clear he hr hg
          go_enter Try.func6, Try.ntmps6
          go_wp2_with fail
          refine (unhide (n1 _)).mono ?_
          rintro e W1 ⟨v1, rfl, ho1, hB1⟩
          obtain ⟨a1, p1, rfl⟩ := (RE.of_owns ho1).form
          clear ho1
          simp only [List.length_nil]
          go_wp2_with fail
          refine (unhide (n4 _)).mono ?_
          rintro e W2 ⟨v2, rfl, _, hB2, c2, rfl⟩
          go_wp2_with fail
          refine (unhide (n5 _)).mono ?_
          rintro e W3 ⟨v3, rfl, _, hB3, c3, rfl⟩
          go_wp2_with fail
          refine (unhide (n6 _)).mono ?_
          rintro e W4 ⟨rfl, hB4⟩
          go_wp2_with fail
          refine (unhide (n7 _)).mono ?_
          rintro e W5 ⟨rfl, hB5⟩
          have hB := bnext (bnext (bnext (bnext hB1 hB2) hB3) hB4) hB5
          by_cases hN : 400 < N
          · have d4 : decide ((400 : Int) < (N : Int)) = true := by rw [decide_eq_true_iff]; omega
            go_wp2_with fail
            refine (unhide (hkn _)).mono ?_
            rintro e W6 ⟨rfl, hB6⟩
            go_wp2
            go_ret
            exact ⟨rfl, bnext hB hB6⟩
          · have d4 : decide ((400 : Int) < (N : Int)) = false := by rw [decide_eq_false_iff_not]; omega
            have d5 : decide ((400 : Int) < (M : Int)) = true := by rw [decide_eq_true_iff]; omega
            go_wp2_with fail
            refine (unhide (hkn _)).mono ?_
            rintro e W6 ⟨rfl, hB6⟩
            go_wp2
            go_ret
            exact ⟨rfl, bnext hB hB6⟩
      · have he : mkErr a b = 2 := by
          unfold mkErr
          rw [if_neg (by simpa using hg)]
        have hr : mkRes a b = [] := by unfold mkRes; rw [he, if_neg (by decide)]
        have n1 := fun W => hide (make_in a b (by omega) (by omega) W)
        rw [he, hr] at n1
        have n4 := fun W => hide (runes_in a (by omega) W)
        have n5 := fun W => hide (runes_in b (by omega) W)
        rw [ma] at n4
        rw [mb] at n5
        have n6 := fun W => hide (badAt_in a (by omega) W)
        have n7 := fun W => hide (badAt_in b (by omega) W)
        have g1 : goodB a = decide (firstBad a (allL a) < 0) := rfl
        have g2 : goodB b = decide (firstBad b (allL b) < 0) := rfl
        generalize firstBad a (allL a) = FA at *
        generalize firstBad b (allL b) = FB at *
        generalize (allL a).length = N at *
        generalize (allL b).length = M at *
        clear he hr
        cases hga : goodB a with
        | false =>
          rw [hga] at g1
          have g1' := g1.symm
          clear g1 hga hg g2
          go_enter Try.func6, Try.ntmps6
          go_wp2_with fail
          refine (unhide (n1 _)).mono ?_
          rintro e W1 ⟨v1, rfl, ho1, hB1⟩
          obtain ⟨a1, p1, rfl⟩ := (RE.of_owns ho1).form
          clear ho1
          simp only [List.length_nil]
          go_wp2_with fail
          refine (unhide (n4 _)).mono ?_
          rintro e W2 ⟨v2, rfl, _, hB2, c2, rfl⟩
          go_wp2_with fail
          refine (unhide (n5 _)).mono ?_
          rintro e W3 ⟨v3, rfl, _, hB3, c3, rfl⟩
          go_wp2_with fail
          refine (unhide (n6 _)).mono ?_
          rintro e W4 ⟨rfl, hB4⟩
          go_wp2_with fail
          refine (unhide (hkn _)).mono ?_
          rintro e W6 ⟨rfl, hB6⟩
          go_wp2
          go_ret
          exact ⟨rfl, bnext (bnext (bnext (bnext hB1 hB2) hB3) hB4) hB6⟩
        | true =>
          cases hgb : goodB b with
          | true => exact absurd ⟨hga, hgb⟩ hg
          | false =>
            rw [hga] at g1
            rw [hgb] at g2
            have g1' := g1.symm
            have g2' := g2.symm
            clear g1 hga hg g2 hgb
            go_enter Try.func6, Try.ntmps6
            go_wp2_with fail
            refine (unhide (n1 _)).mono ?_
            rintro e W1 ⟨v1, rfl, ho1, hB1⟩
            obtain ⟨a1, p1, rfl⟩ := (RE.of_owns ho1).form
            clear ho1
            simp only [List.length_nil]
            go_wp2_with fail
            refine (unhide (n4 _)).mono ?_
            rintro e W2 ⟨v2, rfl, _, hB2, c2, rfl⟩
            go_wp2_with fail
            refine (unhide (n5 _)).mono ?_
            rintro e W3 ⟨v3, rfl, _, hB3, c3, rfl⟩
            go_wp2_with fail
            refine (unhide (n6 _)).mono ?_
            rintro e W4 ⟨rfl, hB4⟩
            go_wp2_with fail
            refine (unhide (n7 _)).mono ?_
            rintro e W5 ⟨rfl, hB5⟩
            go_wp2_with fail
            refine (unhide (hkn _)).mono ?_
            rintro e W6 ⟨rfl, hB6⟩
            go_wp2
            go_ret
            exact ⟨rfl, bnext (bnext (bnext (bnext (bnext hB1 hB2) hB3) hB4) hB5) hB6⟩

theorem own : ownKnob Try.prog.godebug = none := by kernel_rfl

set_option maxRecDepth 100000 in
theorem lifted (os : Os) (started : os.Started) (H : Type) (enc : TypeId × Value → H) :
    ReturnsInHanded {} Try.checked os 6 .any (Rows.diffLeastSpec.pre6 enc Try.prog Try.f6 Rows.diffLeastRow.domain false) (Rows.diffLeastSpec.post enc Try.prog Try.f6 false true false false) := by
  refine returnsInHanded_of_change (C := Try.checked) own started (by kernel_rfl) Try.func6
    (ChangeSpec.witness6 (enc := enc) (C := Try.checked) false ⟨#[], #[.string ByteArray.empty, .string ByteArray.empty], []⟩ 8 (by kernel_rfl) (by kernel_rfl) (by kernel_rfl) (by kernel_rfl)) ?_
  intro W base args ds gs before hval0 hW hcnd _
  have hval : ∀ (j : Nat) t v, Try.f6.params[j]? = some t → args[j]? = some v → Value.okWide Try.prog W .any base t v := hval0
  have hW' := hW
  obtain ⟨p, q, hA0, hV, rfl, hfz, hnd⟩ := hW
  have hA : DataW.TrodAll enc Try.prog W 0 (fun _ => true) true Try.f6.params.toList args.toList ds p := hA0
  rw [Try.params6] at hA hval
  obtain ⟨v0, vs0, d0, ds0, p0, q0, hargs, rfl, rfl, h0, r0⟩ := trodAll_cons hA
  obtain ⟨v1, vs1, d1, ds1, p1, q1, rfl, rfl, rfl, h1, r1⟩ := trodAll_cons r0
  obtain ⟨rfl, rfl, rfl⟩ := trodAll_nil r1
  obtain rfl : args = #[v0, v1] := by cases args; simp_all
  obtain ⟨rfl, rfl⟩ := trodVars_none hV
  obtain ⟨a0, rfl, rfl, rfl, w0⟩ := open_string Try.underlying9 (hval 0 9 v0 rfl rfl) h0
  obtain ⟨a1, rfl, rfl, rfl, w1⟩ := open_string Try.underlying9 (hval 1 9 v1 rfl rfl) h1
  clear hA0 hval0
  simp only [List.append_nil] at hW'
  refine (walk a0 a1 w0 w1 W).mono fun e W' ⟨he, bel⟩ => ?_
  subst he
  exact ⟨_, rfl, _, _, _, [], _, [], hW', trodAll_mk1 (shut_bool Try.underlying4 _), (trodAll_cons_mk (shut_string Try.underlying9 w0) (trodAll_cons_mk (shut_string Try.underlying9 w1) trodAll_mk0)), rfl, bel.frame _, fun h => by cases h⟩

theorem over : Rows.diffLeastRow.holds Try.pinned (OpenSpec.ofChange Rows.diffLeastSpec) :=
  OpenClaim.holds_of_wide 6 Try.f6 rfl rfl rfl rfl rfl rfl rfl ⟨rfl, rfl, rfl, rfl, rfl⟩ rfl rfl rfl rfl rfl (by kernel_rfl) Try.func6 (by kernel_rfl)
    (of_decide_eq_true (by kernel_rfl)) (by unfold Func.isWrapper; first | (rw [if_pos (by decide +kernel)]; kernel_rfl) | (rw [if_neg (by decide +kernel)]; exact ⟨rfl, rfl⟩))
    (fun os started H enc _ => lifted os started H enc)

end LDiffLeast

theorem diffLeast_holds : Rows.DiffLeastSaid := LDiffLeast.over

end Go.Proofs.Ytlbgfcbhpmhhpaa
