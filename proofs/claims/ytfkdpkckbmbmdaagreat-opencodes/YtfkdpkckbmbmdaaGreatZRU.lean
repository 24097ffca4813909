/-
  What the document's own BadAt, Good and Count answer.
-/
import Derived.Test.YtfkdpkckbmbmdaaGreatZRefPcs
import Derived.Test.YtfkdpkckbmbmdaaGreatZBad
import Derived.Maps.AppendAt
set_option linter.unusedSimpArgs false
set_option linter.unusedVariables false
namespace Go.Proofs.YtfkdpkckbmbmdaaGreat
open Go.RowKit Go.Lib

theorem pcs_cell {W : World} {B g cap : Nat} {s : ByteArray} {l : List Nat} (h : W.ownsRow B 139 4 (.slice (some ⟨g, 0, none⟩) l.length cap) l.length (pcsC s l)) {k i : Nat} (hk : l[k]? = some i) (q : Nat) (hq : q < 4) :
    W.cell? ⟨g, k * 4 + q, none⟩ = (pcC s i)[q]? := by
  have hlt : k < l.length := (List.getElem?_eq_some_iff.1 hk).1
  rw [h.cellAt (k * 4 + q) (by omega), pcsC_get s l k q i hk hq]

set_option maxHeartbeats 1000000 in
theorem refBadAt_in (s : ByteArray) (hs : s.size ≤ 1000000000) (w : World) :
    Calls Tryz.prog 76 #[.string s] w fun e W' => e = .returned (.int .i64 (firstBad s (allL s))) ∧ Below w.heap.size w W' := by
  have hlen := allL_length s
  go_enter Tryz.func76, Tryz.ntmps76
  go_wp2_with fail
  refine (pieces_in s hs _).mono ?_
  rintro e W ⟨v, rfl, ho, hB⟩
  obtain ⟨l, hl⟩ : ∃ l, allL s = l := ⟨_, rfl⟩
  rw [hl] at ho hlen
  have Hl := hide hl
  clear hl
  obtain ⟨a, c, rfl⟩ := owns4_form ho
  go_wp2
  go_loop [4] (fun iv => ∃ k : Nat, k ≤ l.length ∧ iv = .int .i64 k ∧ Hid (∀ j i, j < k → l[j]? = some i → okR s i = true)) (fun iv => l.length - (RowKit.intOf iv).toNat)
  case atStart => exact ⟨0, by omega, rfl, hide (fun j i h => by omega)⟩
  case round =>
    obtain ⟨k, hk, rfl, hb⟩ := hrel
    by_cases hlt : k < l.length
    · obtain ⟨g, rfl⟩ : ∃ g, a = some ⟨g, 0, none⟩ := by
        rcases ho.2 with ⟨e1, e2⟩ | ⟨g, cap, cur, e1, _⟩
        · omega
        · exact ⟨g, by simpa using (congrArg (fun v => match v with | Value.slice a _ _ => a | _ => none) e1)⟩
      obtain ⟨x, hx⟩ : ∃ x, l[k]? = some x := ⟨_, List.getElem?_eq_getElem hlt⟩
      have c0 := pcs_cell ho hx 0 (by omega)
      have c3 := pcs_cell ho hx 3 (by omega)
      simp only [pcC, List.getElem?_cons_zero, List.getElem?_cons_succ, Nat.add_zero] at c0 c3
      have Hx := hide hx
      clear hx
      have i1 : (k : Int) < (l.length : Int) := by omega
      cases hok : okR s x with
      | true =>
        rw [hok] at c3
        go_wp2
        go_round
        case rel => exact ⟨k + 1, by omega, by go_num, hide (fun j i hj hi => by
          by_cases e : j = k
          · subst e; rw [unhide Hx] at hi; cases hi; exact hok
          · exact unhide hb j i (by omega) hi)⟩
        case measure => simp [RowKit.intOf]; omega
      | false =>
        rw [hok] at c3
        have hf : firstBad s (allL s) = (x : Int) := by
          rw [unhide Hl]
          have e : l = l.take k ++ x :: l.drop (k + 1) := by
            have hgx : l[k] = x := by have := unhide Hx; rw [List.getElem?_eq_getElem hlt] at this; simpa using this
            rw [← hgx, ← List.drop_eq_getElem_cons hlt, List.take_append_drop]
          rw [e]
          refine firstBad_at (fun j hj => ?_) hok
          obtain ⟨m, hm, rfl⟩ := List.getElem_of_mem hj
          have hm' : m < k := by rw [List.length_take] at hm; omega
          refine unhide hb m _ hm' ?_
          rw [List.getElem_take, List.getElem?_eq_getElem]
        have Hf := hide hf
        clear hf
        go_wp2
        go_ret
        exact ⟨by rw [unhide Hf]; rfl, hB⟩
    · have hf : firstBad s (allL s) = -1 := by
        rw [unhide Hl]
        refine firstBad_none (fun i hi => ?_)
        obtain ⟨m, hm, rfl⟩ := List.getElem_of_mem hi
        exact unhide hb m _ (by omega) (List.getElem?_eq_getElem hm)
      have Hf := hide hf
      clear hf
      go_wp2
      go_ret
      exact ⟨by rw [unhide Hf]; rfl, hB⟩

set_option maxHeartbeats 400000 in
theorem refGood_in (s : ByteArray) (hs : s.size ≤ 1000000000) (w : World) :
    Calls Tryz.prog 63 #[.string s] w fun e W' => e = .returned (.bool (decide (firstBad s (allL s) < 0))) ∧ Below w.heap.size w W' := by
  have h := hide (refBadAt_in s hs w)
  obtain ⟨b, hb⟩ : ∃ b, firstBad s (allL s) = b := ⟨_, rfl⟩
  rw [hb] at h ⊢
  clear hb
  go_enter Tryz.func63, Tryz.ntmps63
  go_wp2_with (go_at_call 76; refine (unhide h).mono ?_; rintro e w' ⟨rfl, hB⟩)
  go_ret
  exact ⟨rfl, hB⟩
end Go.Proofs.YtfkdpkckbmbmdaaGreat
