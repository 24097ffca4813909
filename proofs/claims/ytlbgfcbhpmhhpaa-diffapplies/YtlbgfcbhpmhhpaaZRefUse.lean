/-
  What the document's own BadAt, Runes, Mend and Cut answer.
-/
import Derived.Test.YtlbgfcbhpmhhpaaZRefPcs
import Derived.Test.YtlbgfcbhpmhhpaaZRefTxt
import Derived.Test.YtlbgfcbhpmhhpaaZBad
import Derived.Test.YtlbgfcbhpmhhpaaZCut
import Derived.Maps.AppendAt
set_option linter.unusedSimpArgs false
set_option linter.unusedVariables false
namespace Go.Proofs.Ytlbgfcbhpmhhpaa
open Go.RowKit Go.Lib

theorem pcs_cell {W : World} {B g cap : Nat} {s : ByteArray} {l : List Nat} (h : W.ownsRow B 87 4 (.slice (some ⟨g, 0, none⟩) l.length cap) l.length (pcsC s l)) {k i : Nat} (hk : l[k]? = some i) (q : Nat) (hq : q < 4) :
    W.cell? ⟨g, k * 4 + q, none⟩ = (pcC s i)[q]? := by
  have hlt : k < l.length := (List.getElem?_eq_some_iff.1 hk).1
  rw [h.cellAt (k * 4 + q) (by omega), pcsC_get s l k q i hk hq]

set_option maxHeartbeats 1000000 in
theorem refBadAt_in (s : ByteArray) (hs : s.size ≤ 1000000000) (w : World) :
    Calls Try.prog 47 #[.string s] w fun e W' => e = .returned (.int .i64 (firstBad s (allL s))) ∧ Below w.heap.size w W' := by
  have hlen := allL_length s
  go_enter Try.func47, Try.ntmps47
  go_wp2_with fail
  refine (pieces_in s hs _).mono ?_
  rintro e W ⟨v, rfl, ho, hB⟩
  obtain ⟨l, hl⟩ : ∃ l, allL s = l := ⟨_, rfl⟩
  rw [hl] at ho hlen
  have Hl := hide hl
  clear hl
  obtain ⟨a, c, rfl⟩ := owns4_form ho
  go_wp2
  go_loop [4] (fun iv => ∃ k : Nat, k ≤ l.length ∧ iv = .int .i64 k ∧ Hid (∀ j i, j < k → l[j]? = some i → okR s i = true)) (fun iv => l.length - (RowKit.intOf iv).toNat)
  case atStart => exact ⟨0, by omega, rfl, hide (fun j i h => by omega)⟩
  case round =>
    obtain ⟨k, hk, rfl, hb⟩ := hrel
    by_cases hlt : k < l.length
    · obtain ⟨g, rfl⟩ : ∃ g, a = some ⟨g, 0, none⟩ := by
        rcases ho.2 with ⟨e1, e2⟩ | ⟨g, cap, cur, e1, _⟩
        · omega
        · exact ⟨g, by simpa using (congrArg (fun v => match v with | Value.slice a _ _ => a | _ => none) e1)⟩
      obtain ⟨x, hx⟩ : ∃ x, l[k]? = some x := ⟨_, List.getElem?_eq_getElem hlt⟩
      have c0 := pcs_cell ho hx 0 (by omega)
      have c3 := pcs_cell ho hx 3 (by omega)
      simp only [pcC, List.getElem?_cons_zero, List.getElem?_cons_succ, Nat.add_zero] at c0 c3
      have Hx := hide hx
      clear hx
      have i1 : (k : Int) < (l.length : Int) := by omega
      cases hok : okR s x with
      | true =>
        rw [hok] at c3
        go_wp2
        go_round
        case rel => exact ⟨k + 1, by omega, by go_num, hide (fun j i hj hi => by
          by_cases e : j = k
          · subst e; rw [unhide Hx] at hi; cases hi; exact hok
          · exact unhide hb j i (by omega) hi)⟩
        case measure => simp [RowKit.intOf]; omega
      | false =>
        rw [hok] at c3
        have hf : firstBad s (allL s) = (x : Int) := by
          rw [unhide Hl]
          have e : l = l.take k ++ x :: l.drop (k + 1) := by
            have hgx : l[k] = x := by have := unhide Hx; rw [List.getElem?_eq_getElem hlt] at this; simpa using this
            rw [← hgx, ← List.drop_eq_getElem_cons hlt, List.take_append_drop]
          rw [e]
          refine firstBad_at (fun j hj => ?_) hok
          obtain ⟨m, hm, rfl⟩ := List.getElem_of_mem hj
          have hm' : m < k := by rw [List.length_take] at hm; omega
          refine unhide hb m _ hm' ?_
          rw [List.getElem_take, List.getElem?_eq_getElem]
        have Hf := hide hf
        clear hf
        go_wp2
        go_ret
        exact ⟨by rw [unhide Hf]; rfl, hB⟩
    · have hf : firstBad s (allL s) = -1 := by
        rw [unhide Hl]
        refine firstBad_none (fun i hi => ?_)
        obtain ⟨m, hm, rfl⟩ := List.getElem_of_mem hi
        exact unhide hb m _ (by omega) (List.getElem?_eq_getElem hm)
      have Hf := hide hf
      clear hf
      go_wp2
      go_ret
      exact ⟨by rw [unhide Hf]; rfl, hB⟩

theorem info32r : (Try.prog.info? 21).map (fun i => (i.zero, i.size, i.bytes)) = some (some (.int .i32 0), 1, 4) := by kernel_rfl

theorem owns4_below {W W' : World} {B n : Nat} {v : Value} {xs : List Value} (h : W.ownsRow B 87 4 v n xs) (hb : Below W.heap.size W W') : W'.ownsRow B 87 4 v n xs := by
  refine ⟨h.1, ?_⟩
  rcases h.2 with h2 | ⟨g, cap, cur, e1, e2, e3, rest⟩
  · exact .inl h2
  · exact .inr ⟨g, cap, cur, e1, e2, (hb.block g (Array.getElem?_eq_some_iff.1 e3).1).trans e3, rest⟩

set_option maxRecDepth 100000 in
set_option maxHeartbeats 2000000 in
theorem refRunes_in (s : ByteArray) (hs : s.size ≤ 1000000000) (w : World) :
    Calls Try.prog 29 #[.string s] w fun e W' => ∃ v, e = .returned v ∧ W'.ownsRow w.heap.size 21 1 v (runeL s).length ((runeL s).map (Value.int .i32)) ∧ Below w.heap.size w W' := by
  obtain ⟨i0, hi, hz0, hz1, hz2⟩ := info_parts info32r
  have hlen := allL_length s
  go_enter Try.func29, Try.ntmps29
  go_wp2_with fail
  refine (pieces_in s hs _).mono ?_
  rintro e W ⟨v, rfl, ho, hB⟩
  obtain ⟨l, hl⟩ : ∃ l, allL s = l := ⟨_, rfl⟩
  rw [hl] at ho hlen
  have hrl : runeL s = l.map fun i => (rn s i : Int) := by unfold runeL; rw [hl]
  have Hrl := hide hrl
  clear hl hrl
  obtain ⟨a, c, rfl⟩ := owns4_form ho
  have hsW := hB.size
  go_wp2
  go_loopw [3, 5] (fun rv iv wr => ∃ k : Nat, k ≤ l.length ∧ iv = .int .i64 k ∧ wr.ownsRow W.heap.size 21 1 rv k ((l.take k).map fun i => Value.int .i32 (rn s i : Int)) ∧ Below W.heap.size W wr) (fun _ iv _ => l.length - (RowKit.intOf iv).toNat)
  case atStart => exact ⟨0, by omega, rfl, by simpa using World.ownsRow_nil _ _ _ _, Below.refl _ _⟩
  case round =>
    obtain ⟨k, hk, rfl, hrow, hBr⟩ := hrel
    by_cases hlt : k < l.length
    · obtain ⟨g, rfl⟩ : ∃ g, a = some ⟨g, 0, none⟩ := by
        rcases ho.2 with ⟨e1, e2⟩ | ⟨g, cap, cur, e1, _⟩
        · omega
        · exact ⟨g, by simpa using (congrArg (fun v => match v with | Value.slice a _ _ => a | _ => none) e1)⟩
      obtain ⟨x, hx⟩ : ∃ x, l[k]? = some x := ⟨_, List.getElem?_eq_getElem hlt⟩
      have c1 := pcs_cell (owns4_below ho hBr) hx 1 (by omega)
      simp only [pcC, List.getElem?_cons_zero, List.getElem?_cons_succ] at c1
      have hst : (l.take (k + 1)).map (fun i => Value.int .i32 (rn s i : Int)) = (l.take k).map (fun i => Value.int .i32 (rn s i : Int)) ++ [.int .i32 (rn s x : Int)] := by
        rw [List.take_add_one, hx]; simp
      have Hst := hide hst
      clear hx hst
      have i1 : (k : Int) < (l.length : Int) := by omega
      have hsz := hBr.size
      go_wp2_with (at_builtin; refine wpList_append_own _ rfl _ _ 44 rfl W.heap.size 21 i0 (.int .i32 0) 1 4 Try.underlying44 hi hz0 hz1 hz2 rfl (by decide) u3 k _ rfl (hrow.alloc _) ⟨wr.heap.size, 0, none⟩ 1 1 [.int .i32 (rn s x : Int)] rfl rfl (cell_one_new _ _ _) (by simp [Value.oneCell']) (by unfold maxLen; omega) (by omega) (by simp; omega) ?_; intro v4 W4 ho4 hg4 _)
      go_roundw
      case rel => exact ⟨k + 1, by omega, by go_num, by rw [unhide Hst]; exact ho4, (hBr.alloc hsz _).grown hg4 (by simp; omega) (fun k e => (hrow.lt k e).1)⟩
      case measure => simp [RowKit.intOf]; omega
    · obtain rfl : k = l.length := by omega
      go_wp2
      go_ret
      refine ⟨_, rfl, ?_, hB.trans (hBr.mono hsW)⟩
      have h1 := hrow
      rw [List.take_length] at h1
      rw [unhide Hrl, List.length_map, List.map_map]
      refine ⟨h1.1, ?_⟩
      rcases h1.2 with h2 | ⟨g, cap, cur, e1, e2, rest⟩
      · exact .inl h2
      · exact .inr ⟨g, cap, cur, e1, Nat.le_trans hsW e2, rest⟩

end Go.Proofs.Ytlbgfcbhpmhhpaa
