/-
  What the document's own BadAt and Good answer.
-/
import Derived.Test.YticjilkcobpcjaaDoorZRefPcs
import Derived.Test.YticjilkcobpcjaaDoorZGp
set_option linter.unusedSimpArgs false
set_option linter.unusedVariables false
namespace Go.Proofs.YticjilkcobpcjaaDoor
open Go.RowKit Go.Lib

/-- the first place that begins no rune -/
def firstBad (s : ByteArray) (l : List Nat) : Int := match l.find? (fun i => !okR s i) with
  | some i => (i : Int)
  | none => -1

theorem firstBad_none {s : ByteArray} {l : List Nat} (h : ∀ i ∈ l, okR s i = true) : firstBad s l = -1 := by
  unfold firstBad
  rw [List.find?_eq_none.2 (fun i hi => by rw [h i hi]; decide)]
theorem firstBad_at {s : ByteArray} {l rest : List Nat} {i : Nat} (h : ∀ j ∈ l, okR s j = true) (hi : okR s i = false) : firstBad s (l ++ i :: rest) = (i : Int) := by
  unfold firstBad
  rw [List.find?_append, List.find?_eq_none.2 (fun j hj => by rw [h j hj]; decide)]
  simp [hi]

theorem pcs_cell {W : World} {B g cap : Nat} {s : ByteArray} {l : List Nat} (h : W.ownsRow B 115 4 (.slice (some ⟨g, 0, none⟩) l.length cap) l.length (pcsC s l)) {k i : Nat} (hk : l[k]? = some i) (q : Nat) (hq : q < 4) :
    W.cell? ⟨g, k * 4 + q, none⟩ = (pcC s i)[q]? := by
  have hlt : k < l.length := (List.getElem?_eq_some_iff.1 hk).1
  rw [h.cellAt (k * 4 + q) (by omega), pcsC_get s l k q i hk hq]
set_option maxHeartbeats 1000000 in
theorem refBadAt_in (s : ByteArray) (hs : s.size ≤ 1000000000) (w : World) :
    Calls Tryd.prog 53 #[.string s] w fun e W' => e = .returned (.int .i64 (firstBad s (allL s))) ∧ Below w.heap.size w W' := by
  have hlen := allL_length s
  go_enter Tryd.func53, Tryd.ntmps53
  go_wp2_with fail
  refine (pieces_in s hs _).mono ?_
  rintro e W ⟨v, rfl, ho, hB⟩
  obtain ⟨l, hl⟩ : ∃ l, allL s = l := ⟨_, rfl⟩
  rw [hl] at ho hlen
  have Hl := hide hl
  clear hl
  obtain ⟨a, c, rfl⟩ := owns4_form ho
  go_wp2
  go_loop [4] (fun iv => ∃ k : Nat, k ≤ l.length ∧ iv = .int .i64 k ∧ Hid (∀ j i, j < k → l[j]? = some i → okR s i = true)) (fun iv => l.length - (RowKit.intOf iv).toNat)
  case atStart => exact ⟨0, by omega, rfl, hide (fun j i h => by omega)⟩
  case round =>
    obtain ⟨k, hk, rfl, hb⟩ := hrel
    by_cases hlt : k < l.length
    · obtain ⟨g, rfl⟩ : ∃ g, a = some ⟨g, 0, none⟩ := by
        rcases ho.2 with ⟨e1, e2⟩ | ⟨g, cap, cur, e1, _⟩
        · omega
        · exact ⟨g, by simpa using (congrArg (fun v => match v with | Value.slice a _ _ => a | _ => none) e1)⟩
      obtain ⟨x, hx⟩ : ∃ x, l[k]? = some x := ⟨_, List.getElem?_eq_getElem hlt⟩
      have c0 := pcs_cell ho hx 0 (by omega)
      have c3 := pcs_cell ho hx 3 (by omega)
      simp only [pcC, List.getElem?_cons_zero, List.getElem?_cons_succ, Nat.add_zero] at c0 c3
      have Hx := hide hx
      clear hx
      have i1 : (k : Int) < (l.length : Int) := by omega
      cases hok : okR s x with
      | true =>
        rw [hok] at c3
        go_wp2
        go_round
        case rel => exact ⟨k + 1, by omega, by go_num, hide (fun j i hj hi => by
          by_cases e : j = k
          · subst e; rw [unhide Hx] at hi; cases hi; exact hok
          · exact unhide hb j i (by omega) hi)⟩
        case measure => simp [RowKit.intOf]; omega
      | false =>
        rw [hok] at c3
        have hf : firstBad s (allL s) = (x : Int) := by
          rw [unhide Hl]
          have e : l = l.take k ++ x :: l.drop (k + 1) := by
            have hgx : l[k] = x := by have := unhide Hx; rw [List.getElem?_eq_getElem hlt] at this; simpa using this
            rw [← hgx, ← List.drop_eq_getElem_cons hlt, List.take_append_drop]
          rw [e]
          refine firstBad_at (fun j hj => ?_) hok
          obtain ⟨m, hm, rfl⟩ := List.getElem_of_mem hj
          have hm' : m < k := by rw [List.length_take] at hm; omega
          refine unhide hb m _ hm' ?_
          rw [List.getElem_take, List.getElem?_eq_getElem]
        have Hf := hide hf
        clear hf
        go_wp2
        go_ret
        exact ⟨by rw [unhide Hf]; rfl, hB⟩
    · have hf : firstBad s (allL s) = -1 := by
        rw [unhide Hl]
        refine firstBad_none (fun i hi => ?_)
        obtain ⟨m, hm, rfl⟩ := List.getElem_of_mem hi
        exact unhide hb m _ (by omega) (List.getElem?_eq_getElem hm)
      have Hf := hide hf
      clear hf
      go_wp2
      go_ret
      exact ⟨by rw [unhide Hf]; rfl, hB⟩


set_option maxHeartbeats 400000 in
theorem good_in (s : ByteArray) (hs : s.size ≤ 1000000000) (hg : ∀ i ∈ allL s, okR s i = true) (w : World) :
    Calls Tryd.prog 39 #[.string s] w fun e W' => e = .returned (.bool true) ∧ Below w.heap.size w W' := by
  have h := hide (refBadAt_in s hs w)
  rw [firstBad_none hg] at h
  clear hg
  go_enter Tryd.func39, Tryd.ntmps39
  go_wp2_with (go_at_call 53; refine (unhide h).mono ?_; rintro e w' ⟨rfl, hB⟩)
  go_ret
  exact ⟨rfl, hB⟩

theorem firstBad_bad {s : ByteArray} {l : List Nat} (h : ¬ ∀ i ∈ l, okR s i = true) : 0 ≤ firstBad s l := by
  unfold firstBad
  cases hf : l.find? (fun i => !okR s i) with
  | none =>
    refine absurd (fun i hi => ?_) h
    have := List.find?_eq_none.1 hf i hi
    simpa using this
  | some i => simp only; omega
set_option maxHeartbeats 400000 in
theorem good_not (s : ByteArray) (hs : s.size ≤ 1000000000) (hg : ¬ ∀ i ∈ allL s, okR s i = true) (w : World) :
    Calls Tryd.prog 39 #[.string s] w fun e W' => e = .returned (.bool false) ∧ Below w.heap.size w W' := by
  have h := hide (refBadAt_in s hs w)
  have h0 := firstBad_bad hg
  clear hg
  generalize firstBad s (allL s) = b at h h0
  have k : ¬ b < 0 := by omega
  have k2 : decide (b < 0) = false := decide_eq_false k
  have K2 := hide k2
  clear k k2 h0
  go_enter Tryd.func39, Tryd.ntmps39
  go_wp2_with (go_at_call 53; refine (unhide h).mono ?_; rintro e w' ⟨rfl, hB⟩)
  go_ret
  exact ⟨by rw [← unhide K2]; rfl, hB⟩

end Go.Proofs.YticjilkcobpcjaaDoor
