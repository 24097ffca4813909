/-
  Chapter 1's law GlyphMends returns true for every text and every list of runes, and leaves its arguments as they were; no condition.
-/
import Derived.Test.YtnejgbjidonpiabRows
import Derived.WalkKit
import Derived.ProofKit
import Derived.OpenShut
import Derived.ShutString
import Derived.ChangeOld
import Derived.Below
import Derived.Test.YtnejgbjidonpiabKnown
import Derived.Test.YtnejgbjidonpiabRt
set_option linter.unusedVariables false
set_option linter.unusedSimpArgs false
namespace Go.Proofs.Ytnejgbjidonpiab
namespace LGlyphMends
open Go.ChangeShapes Go.WideShapes Go.ChangeAt Go.RowKit Go.Lib
open Go.ChangeMaps (open_string shut_string)

theorem fix_yes {x : Int} (h : (0 ≤ x ∧ x < 55296) ∨ (57344 ≤ x ∧ x ≤ 1114111)) : (fixN x : Int) = x := by
  unfold fixN; rw [if_pos ((valid_iff x).2 h)]; omega
theorem fix_no {x : Int} (h : ¬ ((0 ≤ x ∧ x < 55296) ∨ (57344 ≤ x ∧ x ≤ 1114111))) : (fixN x : Int) = 65533 := by
  unfold fixN; rw [if_neg (fun e => h ((valid_iff x).1 e))]; rfl
theorem bad_laid (ns : List Int) : firstBad (runesBytes ns) (allL (runesBytes ns)) = -1 := firstBad_none (ok_laid ns)
theorem toList_inj {x y : ByteArray} (h : x.toList = y.toList) : x = y := by
  rw [toList_data, toList_data] at h
  rw [← mk_data x, ← mk_data y, h]
theorem below_drewN {B : Nat} {a w : World} (h : Below B a w) (n : Nat) : Below B a (w.drewN n) := ⟨h.os, h.tape, h.output, h.size, h.block⟩

set_option maxRecDepth 100000 in
set_option maxHeartbeats 2000000 in
theorem walk (a0 : ByteArray) (a1 : Option Addr) (len1 cap1 : Nat) (z1 : List Int) (w : World) (w0 : a0.size ≤ maxLen) (w1 : IsRow .i32 w a1 len1 cap1 z1) :
    Calls Try.prog 3 #[.string a0, .slice a1 len1 cap1] w fun e w' => e = .returned (.bool true) ∧ Below w.heap.size w w' := by
  obtain ⟨hrs, hlen, hwf⟩ := w1.rs
  have hl63 : len1 ≤ 9223372036854775807 := by
    rcases w1 with ⟨_, h, _⟩ | ⟨_, _, h1, h2, _⟩
    · omega
    · unfold maxLen at h2; omega
  generalize z1.take len1 = zs at hrs hlen hwf
  clear w1
  unfold maxLen at w0
  by_cases hbig : 20000 < a0.size
  · go_enter Try.func3, Try.ntmps3
    go_wp2_with (go_at_call 6; refine (known_in _).mono ?_; rintro e w' ⟨rfl, hB⟩)
    go_ret
    exact ⟨rfl, hB⟩
  · by_cases hbig2 : 20000 < len1
    · go_enter Try.func3, Try.ntmps3
      go_wp2_with (go_at_call 6; refine (known_in _).mono ?_; rintro e w' ⟨rfl, hB⟩)
      go_ret
      exact ⟨rfl, hB⟩
    · have hm : ∃ m, runesBytes (runeL a0) = m := ⟨_, rfl⟩
      obtain ⟨m, hm⟩ := hm
      have m1 : firstBad m (allL m) = -1 := by rw [← hm]; exact bad_laid _
      have m2 : runesBytes (runeL m) = m := by rw [← hm, runeL_laid, runeL_fix]
      have m3 : (allL m).length = (allL a0).length := by rw [← hm, count_laid, runeL_length]
      have m4 : m.size ≤ 80000 := by
        have h1 := runesBytes_size_le (runeL a0)
        have h2 := allL_length a0
        rw [hm, runeL_length] at h1
        omega
      have Hm := hide hm
      have M1 := hide m1
      have M2 := hide m2
      have M3 := hide m3
      clear hm m1 m2 m3
      have hT : ∃ t, runesBytes zs = t := ⟨_, rfl⟩
      obtain ⟨t, ht⟩ := hT
      have t1 : firstBad t (allL t) = -1 := by rw [← ht]; exact bad_laid _
      have t2 : runeL t = zs.map (fun n => (fixN n : Int)) := by rw [← ht]; exact runeL_laid _
      have t4 : t.size ≤ 80000 := by
        have h1 := runesBytes_size_le zs
        rw [ht, hlen] at h1
        omega
      have Ht := hide ht
      have T1 := hide t1
      have T2 := hide t2
      clear ht t1 t2
      have Hrs := hide hrs
      clear hrs
      have f1 : decide ((20000 : Int) < (a0.size : Int)) = false := by simp; omega
      have f2 : decide ((20000 : Int) < (len1 : Int)) = false := by simp; omega
      by_cases hg : firstBad a0 (allL a0) < 0
      · have hg1 : firstBad a0 (allL a0) = -1 := by
          have h0 := hg
          unfold firstBad at h0 ⊢
          cases hf : (allL a0).find? (fun i => !okR a0 i) with
          | none => rfl
          | some j => rw [hf] at h0; simp at h0; omega
        have hma : m = a0 := by
          rw [← unhide Hm]
          refine mend_good a0 (fun i hi => ?_)
          cases ho : okR a0 i with
          | true => rfl
          | false =>
            exfalso
            unfold firstBad at hg
            cases hf : (allL a0).find? (fun i => !okR a0 i) with
            | none => have := List.find?_eq_none.1 hf i hi; rw [ho] at this; simp at this
            | some j => rw [hf] at hg; simp at hg; omega
        have G1 := hide hg1
        clear hg hg1
        subst hma
        have hmm : (m.toList == m.toList) = true := by simp
        have hcc : (((allL m).length : Int) != ((allL m).length : Int)) = false := by simp
        go_enter Try.func3, Try.ntmps3
        go_wp2_with fail
        refine (mend_in _ (by omega) _).mono ?_
        rintro e W1 ⟨rfl, hB1⟩
        rw [unhide Hm]
        go_wp2_with fail
        refine (badAt_in _ (by omega) _).mono ?_
        rintro e W2 ⟨rfl, hB2⟩
        rw [unhide M1]
        go_wp2_with fail
        refine (badAt_in _ (by omega) _).mono ?_
        rintro e W3 ⟨rfl, hB3⟩
        rw [unhide M1]
        go_wp2_with fail
        refine (badAt_in _ (by omega) _).mono ?_
        rintro e W3a ⟨rfl, hB3a⟩
        rw [unhide M1]
        go_wp2_with fail
        refine (mend_in _ (by omega) _).mono ?_
        rintro e W4 ⟨rfl, hB4⟩
        rw [unhide M2]
        go_wp2_with fail
        refine (count_in _ (by omega) _).mono ?_
        rintro e W5 ⟨rfl, hB5⟩
        go_wp2_with fail
        refine (count_in _ (by omega) _).mono ?_
        rintro e W5a ⟨rfl, hB5a⟩
        go_wp2_with fail
        refine (runes_in _ (by omega) _).mono ?_
        rintro e W5b ⟨v0, rfl, ho0, hB5b, cap0, hv0⟩
        have hr0 := RS.of_owns ho0
        clear ho0 hv0
        go_wp2_with fail
        refine (text_in _ _ _ hr0).mono ?_
        rintro e w' ⟨rfl, rfl⟩
        rw [unhide Hm]
        clear hr0
        have hB : Below w.heap.size w W5b := by
          have s1 := hB1.size
          have s2 := hB2.size
          have s3 := hB3.size
          have s3a := hB3a.size
          have s4 := hB4.size
          have s5 := hB5.size
          have s6 := hB5a.size
          exact ((((((((hB1.trans (hB2.mono (by omega))).trans (hB3.mono (by omega))).trans (hB3a.mono (by omega))).trans (hB4.mono (by omega))).trans (hB5.mono (by omega))).trans (hB5a.mono (by omega))).trans (hB5b.mono (by omega))))
        clear hB1 hB2 hB3 hB3a hB4 hB5 hB5a hB5b
        go_wp2_with fail
        have hrs5 : RS W5b (.slice a1 len1 cap1) zs := RS.below hB (unhide Hrs)
        refine (text_in _ zs _ hrs5).mono ?_
        rintro e w' ⟨rfl, rfl⟩
        rw [unhide Ht]
        go_wp2_with fail
        refine (runes_in _ (by omega) _).mono ?_
        rintro e W6 ⟨v, rfl, ho, hB6, cap6, hv⟩
        have hl6 : (runeL t).length = len1 := by rw [unhide T2, List.length_map, hlen]
        rw [unhide T2] at ho
        rw [hl6] at hv
        have hrs6 : RS W6 v (zs.map (fun n => (fixN n : Int))) := RS.of_owns ho
        have hrs7 : RS W6 (.slice a1 len1 cap1) zs := RS.below hB6 hrs5
        have hB7 := hB.trans (hB6.mono hB.size)
        clear ho hB6 hrs5 hB hl6
        have Hrs6 := hide hrs6
        have Hrs7 := hide hrs7
        clear hrs6 hrs7
        subst hv
        go_wp2_with fail
        refine (badAt_in _ (by omega) _).mono ?_
        rintro e W8 ⟨rfl, hB8⟩
        rw [unhide T1]
        have Hrs8 := hide (RS.below hB8 (unhide Hrs6))
        have Hrs9 := hide (RS.below hB8 (unhide Hrs7))
        have hB := hB7.trans (hB8.mono hB7.size)
        clear Hrs6 Hrs7 hB8 hB7
        have Hlen := hide hlen
        have hnn : ((len1 : Int) != (len1 : Int)) = false := by simp
        clear hlen
        go_wp2_with fail
        go_loopw [9] (fun i wr => (∃ k : Nat, k ≤ len1 ∧ i = .int .i64 k) ∧ ∃ d, wr = W8.drewN d) (fun i _ => len1 - (RowKit.intOf i).toNat)
        case atStart => exact ⟨⟨0, by omega, rfl⟩, 0, rfl⟩
        case round =>
          obtain ⟨⟨k, hk, rfl⟩, d, rfl⟩ := hrel
          by_cases hlt : k < len1
          · have hz : k < zs.length := by rw [unhide Hlen]; exact hlt
            obtain ⟨x, hx⟩ : ∃ x, zs[k]? = some x := ⟨_, List.getElem?_eq_getElem hz⟩
            obtain ⟨b1, off1, c1, e1, hc1⟩ := (unhide Hrs9).resolve_left (fun h => by have := h.1; subst this; simp at hz)
            obtain ⟨b2, off2, c2, e2, hc2⟩ := (unhide Hrs8).resolve_left (fun h => by have := h.1; simp at this; subst this; simp at hz)
            have d1 := hc1 k hz
            have d2 := hc2 k (by simpa using hz)
            simp only [List.getElem?_map, hx, Option.map_some, Option.getD_some] at d1 d2
            obtain ⟨ea, -, ec⟩ : a1 = some ⟨b1, off1, none⟩ ∧ len1 = zs.length ∧ cap1 = c1 := by simpa using e1
            obtain ⟨⟨eb, eo⟩, -, -⟩ : (W5b.heap.size = b2 ∧ 0 = off2) ∧ len1 = zs.length ∧ cap6 = c2 := by simpa using e2
            subst ea ec eb eo
            rw [Nat.zero_add] at d2
            have i1 : (k : Int) < (len1 : Int) := by omega
            have i2 : (0 : Int) ≤ (k : Int) := by omega
            have hxx : (x != x) = false := by simp
            clear hc1 hc2 e1 e2 hz hx
            by_cases hv : (0 ≤ x ∧ x < 55296) ∨ (57344 ≤ x ∧ x ≤ 1114111)
            · rw [fix_yes hv] at d2
              have q1 : decide (0 ≤ x) = true := by simp; omega
              have q2 : decide (x ≤ 1114111) = true := by simp; omega
              by_cases hv3 : x < 55296
              · have q3 : decide (x < 55296) = true := by simp; omega
                clear hv hv3
                go_wp2
                go_quiet (fail)
                go_wp2
                go_roundw
                case rel => exact ⟨⟨k + 1, by omega, by go_num⟩, _, rfl⟩
                case measure => simp [RowKit.intOf]; omega
              · have q3 : decide (x < 55296) = false := by simp; omega
                have q4 : decide (57343 < x) = true := by simp; omega
                clear hv hv3
                go_wp2
                go_quiet (fail)
                go_wp2
                go_roundw
                case rel => exact ⟨⟨k + 1, by omega, by go_num⟩, _, rfl⟩
                case measure => simp [RowKit.intOf]; omega
            · rw [fix_no hv] at d2
              by_cases hv1 : 0 ≤ x
              · have q1 : decide (0 ≤ x) = true := by simp; omega
                by_cases hv2 : x ≤ 1114111
                · have q2 : decide (x ≤ 1114111) = true := by simp; omega
                  have q3 : decide (x < 55296) = false := by simp; omega
                  have q4 : decide (57343 < x) = false := by simp; omega
                  clear hv hv1 hv2
                  go_wp2
                  go_quiet (fail)
                  go_wp2
                  go_roundw
                  case rel => exact ⟨⟨k + 1, by omega, by go_num⟩, _, rfl⟩
                  case measure => simp [RowKit.intOf]; omega
                · have q2 : decide (x ≤ 1114111) = false := by simp; omega
                  clear hv hv1 hv2
                  go_wp2
                  go_quiet (fail)
                  go_wp2
                  go_roundw
                  case rel => exact ⟨⟨k + 1, by omega, by go_num⟩, _, rfl⟩
                  case measure => simp [RowKit.intOf]; omega
              · have q1 : decide (0 ≤ x) = false := by simp; omega
                clear hv hv1
                go_wp2
                go_quiet (fail)
                go_wp2
                go_roundw
                case rel => exact ⟨⟨k + 1, by omega, by go_num⟩, _, rfl⟩
                case measure => simp [RowKit.intOf]; omega
          · go_wp2_with (go_at_call 6; refine (known_in _).mono ?_; rintro e w' ⟨rfl, hBk⟩)
            go_ret
            exact ⟨rfl, hB.trans ((⟨hBk.os, hBk.tape, hBk.output, hBk.size, hBk.block⟩ : Below W8.heap.size W8 _).mono hB.size)⟩
      · have hgB : decide (firstBad a0 (allL a0) < 0) = false := by simp; omega
        have hne : (m.toList == a0.toList) = false := by
          rw [beq_eq_false_iff_ne]
          intro e
          have := toList_inj e
          subst this
          rw [unhide M1] at hg
          exact hg (by decide)
        have hmm : (m.toList == m.toList) = true := by simp
        have hcc : (((allL a0).length : Int) != ((allL a0).length : Int)) = false := by simp
        clear hg
        go_enter Try.func3, Try.ntmps3
        go_wp2_with fail
        refine (mend_in _ (by omega) _).mono ?_
        rintro e W1 ⟨rfl, hB1⟩
        rw [unhide Hm]
        go_wp2_with fail
        refine (badAt_in _ (by omega) _).mono ?_
        rintro e W2 ⟨rfl, hB2⟩
        go_wp2_with fail
        refine (badAt_in _ (by omega) _).mono ?_
        rintro e W3 ⟨rfl, hB3⟩
        rw [unhide M1]
        go_wp2_with fail
        refine (mend_in _ (by omega) _).mono ?_
        rintro e W4 ⟨rfl, hB4⟩
        rw [unhide M2]
        go_wp2_with fail
        refine (count_in _ (by omega) _).mono ?_
        rintro e W5 ⟨rfl, hB5⟩
        rw [unhide M3]
        go_wp2_with fail
        refine (count_in _ (by omega) _).mono ?_
        rintro e W5a ⟨rfl, hB5a⟩
        go_wp2_with fail
        refine (runes_in _ (by omega) _).mono ?_
        rintro e W5b ⟨v0, rfl, ho0, hB5b, cap0, hv0⟩
        have hr0 := RS.of_owns ho0
        clear ho0 hv0
        go_wp2_with fail
        refine (text_in _ _ _ hr0).mono ?_
        rintro e w' ⟨rfl, rfl⟩
        rw [unhide Hm]
        clear hr0
        have hB : Below w.heap.size w W5b := by
          have s1 := hB1.size
          have s2 := hB2.size
          have s3 := hB3.size
          have s4 := hB4.size
          have s5 := hB5.size
          have s6 := hB5a.size
          exact (((((((hB1.trans (hB2.mono (by omega))).trans (hB3.mono (by omega))).trans (hB4.mono (by omega))).trans (hB5.mono (by omega))).trans (hB5a.mono (by omega))).trans (hB5b.mono (by omega))))
        clear hB1 hB2 hB3 hB4 hB5 hB5a hB5b
        go_wp2_with fail
        have hrs5 : RS W5b (.slice a1 len1 cap1) zs := RS.below hB (unhide Hrs)
        refine (text_in _ zs _ hrs5).mono ?_
        rintro e w' ⟨rfl, rfl⟩
        rw [unhide Ht]
        go_wp2_with fail
        refine (runes_in _ (by omega) _).mono ?_
        rintro e W6 ⟨v, rfl, ho, hB6, cap6, hv⟩
        have hl6 : (runeL t).length = len1 := by rw [unhide T2, List.length_map, hlen]
        rw [unhide T2] at ho
        rw [hl6] at hv
        have hrs6 : RS W6 v (zs.map (fun n => (fixN n : Int))) := RS.of_owns ho
        have hrs7 : RS W6 (.slice a1 len1 cap1) zs := RS.below hB6 hrs5
        have hB7 := hB.trans (hB6.mono hB.size)
        clear ho hB6 hrs5 hB hl6
        have Hrs6 := hide hrs6
        have Hrs7 := hide hrs7
        clear hrs6 hrs7
        subst hv
        go_wp2_with fail
        refine (badAt_in _ (by omega) _).mono ?_
        rintro e W8 ⟨rfl, hB8⟩
        rw [unhide T1]
        have Hrs8 := hide (RS.below hB8 (unhide Hrs6))
        have Hrs9 := hide (RS.below hB8 (unhide Hrs7))
        have hB := hB7.trans (hB8.mono hB7.size)
        clear Hrs6 Hrs7 hB8 hB7
        have Hlen := hide hlen
        have hnn : ((len1 : Int) != (len1 : Int)) = false := by simp
        clear hlen
        go_wp2_with fail
        go_loopw [9] (fun i wr => (∃ k : Nat, k ≤ len1 ∧ i = .int .i64 k) ∧ ∃ d, wr = W8.drewN d) (fun i _ => len1 - (RowKit.intOf i).toNat)
        case atStart => exact ⟨⟨0, by omega, rfl⟩, 0, rfl⟩
        case round =>
          obtain ⟨⟨k, hk, rfl⟩, d, rfl⟩ := hrel
          by_cases hlt : k < len1
          · have hz : k < zs.length := by rw [unhide Hlen]; exact hlt
            obtain ⟨x, hx⟩ : ∃ x, zs[k]? = some x := ⟨_, List.getElem?_eq_getElem hz⟩
            obtain ⟨b1, off1, c1, e1, hc1⟩ := (unhide Hrs9).resolve_left (fun h => by have := h.1; subst this; simp at hz)
            obtain ⟨b2, off2, c2, e2, hc2⟩ := (unhide Hrs8).resolve_left (fun h => by have := h.1; simp at this; subst this; simp at hz)
            have d1 := hc1 k hz
            have d2 := hc2 k (by simpa using hz)
            simp only [List.getElem?_map, hx, Option.map_some, Option.getD_some] at d1 d2
            obtain ⟨ea, -, ec⟩ : a1 = some ⟨b1, off1, none⟩ ∧ len1 = zs.length ∧ cap1 = c1 := by simpa using e1
            obtain ⟨⟨eb, eo⟩, -, -⟩ : (W5b.heap.size = b2 ∧ 0 = off2) ∧ len1 = zs.length ∧ cap6 = c2 := by simpa using e2
            subst ea ec eb eo
            rw [Nat.zero_add] at d2
            have i1 : (k : Int) < (len1 : Int) := by omega
            have i2 : (0 : Int) ≤ (k : Int) := by omega
            have hxx : (x != x) = false := by simp
            clear hc1 hc2 e1 e2 hz hx
            by_cases hv : (0 ≤ x ∧ x < 55296) ∨ (57344 ≤ x ∧ x ≤ 1114111)
            · rw [fix_yes hv] at d2
              have q1 : decide (0 ≤ x) = true := by simp; omega
              have q2 : decide (x ≤ 1114111) = true := by simp; omega
              by_cases hv3 : x < 55296
              · have q3 : decide (x < 55296) = true := by simp; omega
                clear hv hv3
                go_wp2
                go_quiet (fail)
                go_wp2
                go_roundw
                case rel => exact ⟨⟨k + 1, by omega, by go_num⟩, _, rfl⟩
                case measure => simp [RowKit.intOf]; omega
              · have q3 : decide (x < 55296) = false := by simp; omega
                have q4 : decide (57343 < x) = true := by simp; omega
                clear hv hv3
                go_wp2
                go_quiet (fail)
                go_wp2
                go_roundw
                case rel => exact ⟨⟨k + 1, by omega, by go_num⟩, _, rfl⟩
                case measure => simp [RowKit.intOf]; omega
            · rw [fix_no hv] at d2
              by_cases hv1 : 0 ≤ x
              · have q1 : decide (0 ≤ x) = true := by simp; omega
                by_cases hv2 : x ≤ 1114111
                · have q2 : decide (x ≤ 1114111) = true := by simp; omega
                  have q3 : decide (x < 55296) = false := by simp; omega
                  have q4 : decide (57343 < x) = false := by simp; omega
                  clear hv hv1 hv2
                  go_wp2
                  go_quiet (fail)
                  go_wp2
                  go_roundw
                  case rel => exact ⟨⟨k + 1, by omega, by go_num⟩, _, rfl⟩
                  case measure => simp [RowKit.intOf]; omega
                · have q2 : decide (x ≤ 1114111) = false := by simp; omega
                  clear hv hv1 hv2
                  go_wp2
                  go_quiet (fail)
                  go_wp2
                  go_roundw
                  case rel => exact ⟨⟨k + 1, by omega, by go_num⟩, _, rfl⟩
                  case measure => simp [RowKit.intOf]; omega
              · have q1 : decide (0 ≤ x) = false := by simp; omega
                clear hv hv1
                go_wp2
                go_quiet (fail)
                go_wp2
                go_roundw
                case rel => exact ⟨⟨k + 1, by omega, by go_num⟩, _, rfl⟩
                case measure => simp [RowKit.intOf]; omega
          · go_wp2_with (go_at_call 6; refine (known_in _).mono ?_; rintro e w' ⟨rfl, hBk⟩)
            go_ret
            exact ⟨rfl, hB.trans ((⟨hBk.os, hBk.tape, hBk.output, hBk.size, hBk.block⟩ : Below W8.heap.size W8 _).mono hB.size)⟩

theorem own : ownKnob Try.prog.godebug = none := by kernel_rfl
theorem laidOut : laidOutB Try.prog = true := by kernel_rfl

set_option maxRecDepth 100000 in
theorem lifted (os : Os) (started : os.Started) (H : Type) (enc : TypeId × Value → H) :
    ReturnsInHanded {} Try.checked os 3 .any (Rows.glyphMendsSpec.pre6 enc Try.prog Try.f3 Rows.glyphMendsRow.domain false) (Rows.glyphMendsSpec.post enc Try.prog Try.f3 false true false false) := by
  refine returnsInHanded_of_change (C := Try.checked) own started (by kernel_rfl) Try.func3
    (ChangeSpec.witness6 (enc := enc) (C := Try.checked) false ⟨#[], #[.string ByteArray.empty, .slice none 0 0], []⟩ 8 (by kernel_rfl) (by kernel_rfl) (by kernel_rfl) (by kernel_rfl)) ?_
  intro W base args ds gs before hval0 hW hcnd _
  have hval : ∀ (j : Nat) t v, Try.f3.params[j]? = some t → args[j]? = some v → Value.okWide Try.prog W .any base t v := hval0
  have hW' := hW
  obtain ⟨p, q, hA0, hV, rfl, hfz, hnd⟩ := hW
  have hA : DataW.TrodAll enc Try.prog W 0 (fun _ => true) true Try.f3.params.toList args.toList ds p := hA0
  rw [Try.params3] at hA hval
  obtain ⟨v0, vs0, d0, ds0, p0, q0, hargs, rfl, rfl, h0, r0⟩ := trodAll_cons hA
  obtain ⟨v1, vs1, d1, ds1, p1, q1, rfl, rfl, rfl, h1, r1⟩ := trodAll_cons r0
  obtain ⟨rfl, rfl, rfl⟩ := trodAll_nil r1
  obtain rfl : args = #[v0, v1] := by cases args; simp_all
  obtain ⟨rfl, rfl⟩ := trodVars_none hV
  obtain ⟨a0, rfl, rfl, rfl, w0⟩ := open_string Try.underlying9 (hval 0 9 v0 rfl rfl) h0
  obtain ⟨a1, len1, cap1, rfl⟩ := okWide_slice Try.underlying22 (hval 1 22 v1 rfl rfl)
  have k1 := h1
  have lt1 : ∀ x ∈ p1, x.block < W.heap.size := by obtain ⟨m, hm⟩ := k1; exact DataW.trod_lt m _ _ _ hm
  obtain ⟨z1, w1⟩ : ∃ zs, IsRow .i32 W a1 len1 cap1 zs := by
    obtain ⟨fuel, hf⟩ := h1
    rcases open_ints Try.underlying22 Try.underlying21 (by kernel_rfl) hf with ⟨hcs, _⟩ | ⟨x, l, c, zs, hcs, _, hl, hm, hz, _, hcell, hwz⟩
    · simp [Value.cells] at hcs
      obtain ⟨rfl, rfl, rfl⟩ := hcs
      exact ⟨[], .inl ⟨rfl, rfl, rfl, rfl⟩⟩
    · simp [Value.cells] at hcs
      obtain ⟨rfl, rfl, rfl⟩ := hcs
      exact ⟨zs, .inr ⟨_, rfl, hl, hm, by simpa using hz, hcell, hwz⟩⟩
  clear hA0 hval0
  refine (walk a0 a1 len1 cap1 z1 W w0 w1).mono fun e W' ⟨he, bel⟩ => ?_
  subst he
  exact ⟨_, rfl, _, _, _, [], _, [], hW', trodAll_mk1 (shut_bool Try.underlying4 _), (trodAll_cons_mk (shut_string Try.underlying9 w0) (trodAll_cons_mk (Below.trod laidOut (by kernel_rfl) (of_decide_eq_true (by kernel_rfl)) k1 bel lt1) trodAll_mk0)), rfl, bel.frame _, fun h => by cases h⟩

theorem over : Rows.glyphMendsRow.holds Try.pinned (OpenSpec.ofChange Rows.glyphMendsSpec) :=
  OpenClaim.holds_of_wide 3 Try.f3 rfl rfl rfl rfl rfl rfl rfl ⟨rfl, rfl, rfl, rfl, rfl⟩ rfl rfl rfl rfl rfl (by kernel_rfl) Try.func3 (by kernel_rfl)
    (of_decide_eq_true (by kernel_rfl)) (by unfold Func.isWrapper; first | (rw [if_pos (by decide +kernel)]; kernel_rfl) | (rw [if_neg (by decide +kernel)]; exact ⟨rfl, rfl⟩))
    (fun os started H enc _ => lifted os started H enc)

end LGlyphMends

theorem glyphMends_holds : Rows.GlyphMendsSaid := LGlyphMends.over

end Go.Proofs.Ytnejgbjidonpiab
