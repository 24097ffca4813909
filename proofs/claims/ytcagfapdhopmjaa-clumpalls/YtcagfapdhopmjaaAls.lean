/-
  The closures of ClumpAlls: within itself, and the last one.
-/
import Derived.Test.YtcagfapdhopmjaaRAll
import Derived.Test.YtcagfapdhopmjaaPrt2
import Derived.Lib.Strings
set_option linter.unusedSimpArgs false
set_option linter.unusedVariables false
namespace Go.Proofs.Ytcagfapdhopmjaa
open Go.RowKit Go.Lib Go.Shelf

theorem set_same {W : World} {b t : Nat} {v : Value} (h : Boxed W b t v) : W.setCell ⟨b, 0, none⟩ v = W := by
  have hb := h.lt
  have he : W.heap.modify b (fun o => match o with | .cells c elem frozen => .cells (if (none : Option Nat).isSome then c else c.setIfInBounds 0 v) elem frozen | o => o) = W.heap := by
    apply Array.ext
    · simp
    · intro i h1 h2
      rw [Array.getElem_modify]
      split
      · rename_i e
        subst e
        have : W.heap[b] = .cells #[v] t (0, 0) := by
          have := h
          unfold Boxed at this
          rw [Array.getElem?_eq_getElem hb] at this
          simpa using this
        rw [this]
        simp
      · rfl
  cases W
  unfold World.setCell
  congr 1

set_option maxRecDepth 100000 in
set_option maxHeartbeats 2000000 in
theorem alls2_in (a : Int) (t : ByteArray) (N S : Nat) (n : Nat) (stop : Int) (W : World) (hN : Boxed W N 3 (.int .i64 (n : Nat))) (hS : Boxed W S 3 (.int .i64 stop)) (hne : S ≠ N) (hn : n ≤ 1000000000) :
    Calls Try.prog 22 #[.int .i64 a, .string t, .pointer (some ⟨N, 0, none⟩), .pointer (some ⟨S, 0, none⟩)] W fun e W' => e = .returned (.bool (decide (((n + 1 : Nat) : Int) ≠ stop))) ∧ W' = W.setCell ⟨N, 0, none⟩ (.int .i64 ((n + 1 : Nat) : Int)) := by
  have c1 := hN.cell
  have f1 := hN.frozen
  have c2 := (hN.set (.int .i64 ((n : Int) + 1))).cell
  have c3 := (hS.other hne (.int .i64 ((n : Int) + 1))).cell
  have e1 : ((n + 1 : Nat) : Int) = (n : Int) + 1 := by omega
  rw [e1]
  go_enter Try.func22, Try.ntmps22
  go_wp2
  go_ret
  refine ⟨?_, rfl⟩
  congr 2
  by_cases h : (n : Int) + 1 = stop <;> simp [h]

set_option maxRecDepth 100000 in
set_option maxHeartbeats 4000000 in
theorem alls11_in (a : Int) (t : ByteArray) (O K B S g L cap : Nat) (n : Nat) (stop : Int) (W : World)
    (hO : Boxed W O 4 (.bool true)) (hK : Boxed W K 3 (.int .i64 (n : Nat))) (hB : Boxed W B 31 (.slice (some ⟨g, 0, none⟩) L cap)) (hS : Boxed W S 3 (.int .i64 stop))
    (hc : W.cell? ⟨g, n, none⟩ = some (.string t)) (hnL : n < L) (hL : L ≤ 1000000000) (ha : n = 0 → a = 0) (hOK : O ≠ K) (hSK : S ≠ K) :
    Calls Try.prog 21 #[.int .i64 a, .string t, .pointer (some ⟨O, 0, none⟩), .pointer (some ⟨K, 0, none⟩), .pointer (some ⟨B, 0, none⟩), .pointer (some ⟨S, 0, none⟩)] W fun e W' => e = .returned (.bool (decide (((n + 1 : Nat) : Int) ≠ stop))) ∧ W' = W.setCell ⟨K, 0, none⟩ (.int .i64 ((n + 1 : Nat) : Int)) := by
  have c1 := hO.cell
  have f1 := hO.frozen
  have c2 := hK.cell
  have f2 := hK.frozen
  have c3 := hB.cell
  have s1 := set_same hO
  have c4 := (hK.set (.int .i64 ((n : Int) + 1))).cell
  have c5 := (hS.other hSK (.int .i64 ((n : Int) + 1))).cell
  have c6 := (hO.other hOK (.int .i64 ((n : Int) + 1))).cell
  have i1 : (n : Int) < (L : Int) := by omega
  have q3 : (t.toList == t.toList) = true := by simp
  have e1 : ((n + 1 : Nat) : Int) = (n : Int) + 1 := by omega
  rw [e1]
  have fin : ∀ b : Bool, b = decide ((n : Int) + 1 ≠ stop) → Ending.returned (.bool b) = .returned (.bool (decide ((n : Int) + 1 ≠ stop))) := fun b e => by rw [e]
  by_cases hz : n = 0
  · have ha0 := ha hz
    subst ha0
    subst hz
    have e0 : ((0 : Nat) : Int) = 0 := rfl
    rw [e0] at c2 c4 c5 c6 i1 fin ⊢
    rw [Int.zero_add] at c4 c5 c6 fin ⊢
    clear e0
    go_enter Try.func21, Try.ntmps21
    go_wp2_with fail
    go_ret
    refine ⟨?_, rfl⟩
    congr 2
    by_cases h : (1 : Int) = stop <;> simp [h]
  · have j1 : (0 : Int) < (n : Int) := by omega
    go_enter Try.func21, Try.ntmps21
    go_wp2_with fail
    go_ret
    refine ⟨?_, rfl⟩
    congr 2
    by_cases h : (n : Int) + 1 = stop <;> simp [h]

end Go.Proofs.Ytcagfapdhopmjaa
