/-
  What the document's own Cut answers.
-/
import Derived.Test.YtnejgbjidonpiaaRefUse
import Derived.Deep.QuietTactic
import Derived.BigQuiet
set_option linter.unusedSimpArgs false
set_option linter.unusedVariables false
namespace Go.Proofs.Ytnejgbjidonpiaa
open Go.RowKit Go.Lib

theorem allL_lt (s : ByteArray) : ∀ i ∈ allL s, i < s.size := by
  have go : ∀ (f i : Nat), ∀ j ∈ posL s f i, j < s.size := by
    intro f
    induction f with
    | zero => intro i j h; cases h
    | succ f ih =>
      intro i j h
      unfold posL at h
      split at h
      · rcases List.mem_cons.1 h with rfl | h
        · assumption
        · exact ih _ j h
      · cases h
  exact go _ _

set_option maxRecDepth 100000 in
set_option maxHeartbeats 2000000 in
theorem refCut_in (s : ByteArray) (n : Int) (hs : s.size ≤ 1000000000) (w : World) :
    Calls Try.prog 15 #[.string s, .int .i64 n] w fun e W' => e = .returned (.tuple #[.string (cutL s n), .string (cutR s n)]) ∧ Below w.heap.size w W' := by
  have hlen := allL_length s
  have hlt' := allL_lt s
  obtain ⟨l, hl⟩ : ∃ l, allL s = l := ⟨_, rfl⟩
  obtain ⟨L, hL⟩ : ∃ L, cutL s n = L := ⟨_, rfl⟩
  obtain ⟨R, hR⟩ : ∃ R, cutR s n = R := ⟨_, rfl⟩
  have hL' := hL
  have hR' := hR
  unfold cutL at hL'
  unfold cutR at hR'
  rw [hL, hR]
  rw [hl] at hL' hR' hlt' hlen
  have Hl := hide hl
  clear hl hL hR
  by_cases hbig : (l.length : Int) ≤ n
  · rw [List.getElem?_eq_none (by omega)] at hL' hR'
    simp only at hL' hR'
    subst hL' hR'
    have hn0 : ¬ n < 0 := by omega
    go_enter Try.func15, Try.ntmps15
    go_wp2_with fail
    refine (pieces_in s hs _).mono ?_
    rintro e W ⟨v, rfl, ho, hB⟩
    rw [unhide Hl] at ho
    obtain ⟨a, c, rfl⟩ := owns4_form ho
    clear ho
    go_wp2
    go_ret2
    exact ⟨rfl, hB⟩
  · by_cases h0 : l.length = 0
    · rw [List.getElem?_eq_none (by omega)] at hL' hR'
      simp only at hL' hR'
      subst hL' hR'
      have hn0 : n < 0 := by omega
      obtain rfl : l = [] := List.eq_nil_of_length_eq_zero h0
      go_enter Try.func15, Try.ntmps15
      go_wp2_with fail
      refine (pieces_in s hs _).mono ?_
      rintro e W ⟨v, rfl, ho, hB⟩
      rw [unhide Hl] at ho
      obtain ⟨a, c, rfl⟩ := owns4_form ho
      clear ho
      go_wp2
      go_ret2
      exact ⟨rfl, hB⟩
    · obtain ⟨k, hkn⟩ : ∃ k : Nat, n.toNat = k := ⟨_, rfl⟩
      have hk : k < l.length := by omega
      obtain ⟨x, hx⟩ : ∃ x, l[k]? = some x := ⟨_, List.getElem?_eq_getElem hk⟩
      have hxs : x < s.size := hlt' x (List.mem_of_getElem? hx)
      rw [hkn, hx] at hL' hR'
      simp only at hL' hR'
      subst hL' hR'
      have hk0 : n < 0 ∧ k = 0 ∨ 0 ≤ n ∧ n = (k : Int) := by omega
      have i1 : (k : Int) < (l.length : Int) := by omega
      have i2 : (0 : Int) ≤ (k : Int) := by omega
      have i3 : (x : Int) ≤ (s.size : Int) := by omega
      have i4 : (0 : Int) ≤ (x : Int) := by omega
      have hkl : ¬ ((l.length : Int) ≤ (k : Int)) := by omega
      clear hlt' hkn
      have Hx := hide hx
      clear hx
      rcases hk0 with ⟨hn0, rfl⟩ | ⟨hn0, rfl⟩
      all_goals
        go_enter Try.func15, Try.ntmps15
        go_wp2_with fail
        refine (pieces_in s hs _).mono ?_
        rintro e W ⟨v, rfl, ho, hB⟩
        rw [unhide Hl] at ho
        obtain ⟨a, c, rfl⟩ := owns4_form ho
        obtain ⟨g, rfl⟩ : ∃ g, a = some ⟨g, 0, none⟩ := by
          rcases ho.2 with ⟨e1, e2⟩ | ⟨g, cap, cur, e1, _⟩
          · omega
          · exact ⟨g, by simpa using (congrArg (fun v => match v with | Value.slice a _ _ => a | _ => none) e1)⟩
        have c0 := pcs_cell ho (unhide Hx) 0 (by omega)
        simp only [pcC, List.getElem?_cons_zero, List.getElem?_cons_succ, Nat.add_zero, Nat.zero_mul] at c0
        clear ho
        go_wp2
        go_quiet (fail)
        go_wp2
        go_ret2
        exact ⟨rfl, ⟨hB.os, hB.tape, hB.output, hB.size, hB.block⟩⟩

end Go.Proofs.Ytnejgbjidonpiaa
