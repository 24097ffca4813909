/-
  What is laid so far: the words of a text that is laid item by item.
-/
import Derived.Test.YtkndjbmlkfpfoaaGreatDoorZPKToSw
import Derived.Test.YtkndjbmlkfpfoaaGreatDoorZShelfToQu

set_option linter.unusedSimpArgs false
set_option linter.unusedVariables false
namespace Go.Proofs.YtkndjbmlkfpfoaaGreatDoor
open Go.RowKit Go.Lib

theorem qL_len (s : ByteArray) : ∀ l : List Nat, (∀ i ∈ l, i < s.size) → (qL s l).length ≤ 10 * l.length
  | [], _ => by simp [qL]
  | i :: l, h => by
    have h1 := qP_len s i (h i (List.mem_cons_self ..))
    have h2 := qL_len s l (fun j hj => h j (List.mem_cons_of_mem _ hj))
    show (qP s i ++ qL s l).length ≤ _
    rw [List.length_append, List.length_cons]
    omega
theorem qT_len (s : ByteArray) : (qT s).data.toList.length ≤ 10 * s.size + 2 := by
  have h1 := qL_len s (allL s) (fun i hi => (mem_allL.1 hi).1)
  have h2 := allL_length s
  unfold qT
  rw [ofL_list]
  simp
  omega
end Go.Proofs.YtkndjbmlkfpfoaaGreatDoor
