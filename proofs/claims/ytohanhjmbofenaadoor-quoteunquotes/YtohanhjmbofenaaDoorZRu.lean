/-
  What the document's own Unquote answers.
-/
import Derived.Test.YtohanhjmbofenaaDoorZQd
import Derived.Deep.QuietTactic
import Derived.BigQuiet
set_option linter.unusedSimpArgs false
set_option linter.unusedVariables false
namespace Go.Proofs.YtohanhjmbofenaaDoor
open Go.RowKit Go.Lib

set_option maxRecDepth 100000 in
set_option maxHeartbeats 2000000 in
theorem quoted_no (s : ByteArray) (hs : s.size ≤ 1000000000) (h : ¬ (0 < s.size ∧ by_ s 0 = 34)) (w : World) :
    Calls Tryd.prog 42 #[.string s, .int .i64 0] w fun e w' => e = .returned (.agg #[.string ⟨#[]⟩, .int .i64 (-1), .int .i64 0]) ∧ Below w.heap.size w w' := by
  by_cases h0 : 0 < s.size
  · have hget := by_get s 0 h0
    have hn : (((by_ s 0 : Nat) : Int) != 34) = true := by rw [bne_iff_ne]; intro e; exact h ⟨h0, by omega⟩
    have hne : ¬ s = ByteArray.empty := by rintro rfl; simp at h0
    clear h
    go_enter Tryd.func42, Tryd.ntmps42
    go_wp2
    refine bodyPost_ret (v := .agg #[.string ⟨#[]⟩, .int .i64 (-1), .int .i64 0]) ?_ rfl ⟨rfl, ?_⟩
    · simp [results, Tryd.f42, go_sem]
    · exact (Below.refl w.heap.size w).alloc (Nat.le_refl _) _
  · obtain rfl : s = ByteArray.empty := by
      apply toList_inj
      have h1 : s.data.toList.length = s.size := by simp
      have h2 : s.data.toList = [] := List.eq_nil_of_length_eq_zero (by omega)
      rw [h2]; rfl
    clear h h0
    go_enter Tryd.func42, Tryd.ntmps42
    go_wp2
    refine bodyPost_ret (v := .agg #[.string ⟨#[]⟩, .int .i64 (-1), .int .i64 0]) ?_ rfl ⟨rfl, ?_⟩
    · simp [results, Tryd.f42, go_sem]
    · exact (Below.refl w.heap.size w).alloc (Nat.le_refl _) _

set_option maxRecDepth 100000 in
set_option maxHeartbeats 2000000 in
theorem refUnq_in (s : ByteArray) (hs : s.size ≤ 1000000000) (w : World) :
    Calls Tryd.prog 13 #[.string s] w fun e w' => e = .returned (.tuple #[.string (uqT s), .int .i64 (uqN s : Int), .int .i64 (uqE s : Int)]) ∧ Below w.heap.size w w' := by
  by_cases h0 : 0 < s.size ∧ by_ s 0 = 34
  · have hrd := hide (quoted_in s hs 0 h0.1 h0.2 w)
    have hb := rdA_bounds s s.size 1 [] (by omega) (by omega)
    rw [← rdA_zero] at hb
    rw [Nat.zero_add] at hrd
    have hT : uqT s = (if uqOk s then ofL (rdE s 1).1 else ofL []) := rfl
    have hN : uqN s = (if uqOk s then 0 else (rdE s 1).2.1) := by unfold uqN; rw [if_pos h0]
    have hE : uqE s = (if uqOk s then 0 else 18) := rfl
    have hO : uqOk s = ((rdE s 1).2.2 && decide ((rdE s 1).2.1 = s.size)) := by unfold uqOk; rw [decide_eq_true h0.1, decide_eq_true h0.2]; rfl
    rw [hT, hN, hE]
    obtain ⟨x, n, o, hx⟩ : ∃ x n o, rdE s 1 = (x, n, o) := ⟨_, _, _, rfl⟩
    rw [hx] at hrd hb hO ⊢
    have hn := hb.1
    simp only [paV] at hrd hO hn ⊢
    clear hT hN hE hx hb h0
    cases o with
    | false =>
      rw [hO]
      simp only [Bool.false_and, Bool.false_eq_true, if_false] at hrd ⊢
      clear hO
      go_enter Tryd.func13, Tryd.ntmps13
      go_wp2_with (go_at_call 42; refine (unhide hrd).mono ?_; rintro e w' ⟨rfl, hB⟩)
      go_quiet (fail)
      go_wp2
      go_ret3
      exact ⟨rfl, (show Below w.heap.size w (w'.drewN _) from ⟨hB.os, hB.tape, hB.output, hB.size, hB.block⟩).alloc hB.size _⟩
    | true =>
      by_cases hl : n = s.size
      · rw [hO, decide_eq_true hl]
        simp only [Bool.true_and, if_true] at hrd ⊢
        have i1 : ¬ (n : Int) < (s.size : Int) := by omega
        have i2 : ¬ (n : Int) < 0 := by omega
        clear hO hl
        go_enter Tryd.func13, Tryd.ntmps13
        go_wp2_with (go_at_call 42; refine (unhide hrd).mono ?_; rintro e w' ⟨rfl, hB⟩)
        go_ret3
        exact ⟨rfl, hB.alloc hB.size _⟩
      · rw [hO, decide_eq_false hl]
        simp only [Bool.and_false, Bool.false_eq_true, if_false, if_true] at hrd ⊢
        have i1 : (n : Int) < (s.size : Int) := by omega
        have i2 : ¬ (n : Int) < 0 := by omega
        clear hO hl
        go_enter Tryd.func13, Tryd.ntmps13
        go_wp2_with (go_at_call 42; refine (unhide hrd).mono ?_; rintro e w' ⟨rfl, hB⟩)
        go_quiet (fail)
        go_wp2
        go_ret3
        exact ⟨rfl, (show Below w.heap.size w (w'.drewN _) from ⟨hB.os, hB.tape, hB.output, hB.size, hB.block⟩).alloc hB.size _⟩
  · have hrd := hide (quoted_no s hs h0 w)
    have hO : uqOk s = false := by
      unfold uqOk
      by_cases h1 : 0 < s.size
      · rw [decide_eq_false (fun e => h0 ⟨h1, e⟩)]; simp
      · rw [decide_eq_false h1]; simp
    have hT : uqT s = ofL [] := by unfold uqT; rw [hO]; rfl
    have hN : uqN s = 0 := by unfold uqN; rw [hO, if_neg h0]; rfl
    have hE : uqE s = 18 := by unfold uqE; rw [hO]; rfl
    rw [hT, hN, hE]
    clear hO hT hN hE h0
    go_enter Tryd.func13, Tryd.ntmps13
    go_wp2_with (go_at_call 42; refine (unhide hrd).mono ?_; rintro e w' ⟨rfl, hB⟩)
    go_quiet (fail)
    go_wp2
    go_ret3
    exact ⟨rfl, (show Below w.heap.size w (w'.drewN _) from ⟨hB.os, hB.tape, hB.output, hB.size, hB.block⟩).alloc hB.size _⟩

end Go.Proofs.YtohanhjmbofenaaDoor
