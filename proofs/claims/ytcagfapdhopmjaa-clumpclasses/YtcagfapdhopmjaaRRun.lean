/-
  What the document's own Runes answers.
-/
import Derived.Test.YtcagfapdhopmjaaRBr
set_option linter.unusedSimpArgs false
set_option linter.unusedVariables false
namespace Go.Proofs.Ytcagfapdhopmjaa
open Go.RowKit Go.Lib

/-- the runes of a text -/
def runeL (s : ByteArray) : List Int := (allL s).map fun i => (rn s i : Int)
theorem runeL_length (s : ByteArray) : (runeL s).length = (allL s).length := by simp [runeL]
theorem runeL_range (s : ByteArray) : ∀ r ∈ runeL s, 0 ≤ r ∧ r ≤ 1114111 := by
  intro r hr
  obtain ⟨i, hi, rfl⟩ := List.mem_map.1 hr
  have := rn_lt s i (mem_allL.1 hi).1
  omega

theorem info32r : (Try.prog.info? 21).map (fun i => (i.zero, i.size, i.bytes)) = some (some (.int .i32 0), 1, 4) := by kernel_rfl

set_option maxRecDepth 100000 in
set_option maxHeartbeats 2000000 in
theorem refRunes_in (s : ByteArray) (hs : s.size ≤ 1000000000) (w : World) :
    Calls Try.prog 12 #[.string s] w fun e W' => ∃ v, e = .returned v ∧ W'.ownsRow w.heap.size 21 1 v (runeL s).length ((runeL s).map (Value.int .i32)) ∧ Below w.heap.size w W' := by
  obtain ⟨i0, hi, hz0, hz1, hz2⟩ := info_parts info32r
  have hlen := allL_length s
  go_enter Try.func12, Try.ntmps12
  go_wp2_with fail
  refine (pieces_in s hs _).mono ?_
  rintro e W ⟨v, rfl, ho, hB⟩
  obtain ⟨l, hl⟩ : ∃ l, allL s = l := ⟨_, rfl⟩
  rw [hl] at ho hlen
  have hrl : runeL s = l.map fun i => (rn s i : Int) := by unfold runeL; rw [hl]
  have Hrl := hide hrl
  clear hl hrl
  obtain ⟨a, c, rfl⟩ := owns_form ho
  have hsW := hB.size
  go_wp2
  go_loopw [3, 5] (fun rv iv wr => ∃ k : Nat, k ≤ l.length ∧ iv = .int .i64 k ∧ wr.ownsRow W.heap.size 21 1 rv k ((l.take k).map fun i => Value.int .i32 (rn s i : Int)) ∧ Below W.heap.size W wr) (fun _ iv _ => l.length - (RowKit.intOf iv).toNat)
  case atStart => exact ⟨0, by omega, rfl, by simpa using World.ownsRow_nil _ _ _ _, Below.refl _ _⟩
  case round =>
    obtain ⟨k, hk, rfl, hrow, hBr⟩ := hrel
    by_cases hlt : k < l.length
    · obtain ⟨g, rfl⟩ : ∃ g, a = some ⟨g, 0, none⟩ := by
        rcases ho.2 with ⟨e1, e2⟩ | ⟨g, cap, cur, e1, _⟩
        · omega
        · exact ⟨g, by simpa using (congrArg (fun v => match v with | Value.slice a _ _ => a | _ => none) e1)⟩
      obtain ⟨x, hx⟩ : ∃ x, l[k]? = some x := ⟨_, List.getElem?_eq_getElem hlt⟩
      have c1 := pcs_cell (owns_below ho hBr) hx 1 (by omega)
      simp only [pcC, List.getElem?_cons_zero, List.getElem?_cons_succ] at c1
      have hst : (l.take (k + 1)).map (fun i => Value.int .i32 (rn s i : Int)) = (l.take k).map (fun i => Value.int .i32 (rn s i : Int)) ++ [.int .i32 (rn s x : Int)] := by
        rw [List.take_add_one, hx]; simp
      have Hst := hide hst
      clear hx hst
      have i1 : (k : Int) < (l.length : Int) := by omega
      have hsz := hBr.size
      go_wp2_with (at_builtin; refine wpList_append_own _ rfl _ _ 24 rfl W.heap.size 21 i0 (.int .i32 0) 1 4 Try.underlying24 hi hz0 hz1 hz2 rfl (by decide) u3 k _ rfl (hrow.alloc _) ⟨wr.heap.size, 0, none⟩ 1 1 [.int .i32 (rn s x : Int)] rfl rfl (cell_one_new _ _ _) (by simp [Value.oneCell']) (by unfold maxLen; omega) (by omega) (by simp; omega) ?_; intro v4 W4 ho4 hg4 _)
      go_roundw
      case rel => exact ⟨k + 1, by omega, by go_num, by rw [unhide Hst]; exact ho4, (hBr.alloc hsz _).grown hg4 (by simp; omega) (fun k e => (hrow.lt k e).1)⟩
      case measure => simp [RowKit.intOf]; omega
    · obtain rfl : k = l.length := by omega
      go_wp2
      go_ret
      refine ⟨_, rfl, ?_, hB.trans (hBr.mono hsW)⟩
      have h1 := hrow
      rw [List.take_length] at h1
      rw [unhide Hrl, List.length_map, List.map_map]
      refine ⟨h1.1, ?_⟩
      rcases h1.2 with h2 | ⟨g, cap, cur, e1, e2, rest⟩
      · exact .inl h2
      · exact .inr ⟨g, cap, cur, e1, Nat.le_trans hsW e2, rest⟩


end Go.Proofs.Ytcagfapdhopmjaa
