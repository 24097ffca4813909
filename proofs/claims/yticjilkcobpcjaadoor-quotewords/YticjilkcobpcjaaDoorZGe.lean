/-
  How a line ends, and where: QuoteWords' own.
-/
import Derived.Test.YticjilkcobpcjaaDoorZGp
set_option linter.unusedSimpArgs false
set_option linter.unusedVariables false
namespace Go.Proofs.YticjilkcobpcjaaDoor
open Go.RowKit Go.Lib

theorem below_al2 (w : World) (o o' : Obj) : Below w.heap.size w ((w.alloc o).alloc o') := ((Below.refl _ _).alloc (Nat.le_refl _) _).alloc (by show w.heap.size ≤ (w.heap.push _).size; rw [Array.size_push]; omega) _
theorem below_al3 (w : World) (o o' : Obj) : Below w.heap.size w ((w.alloc o).alloc o').drew := ⟨(below_al2 w o o').os, (below_al2 w o o').tape, (below_al2 w o o').output, (below_al2 w o o').size, (below_al2 w o o').block⟩
theorem str_n {a l : List UInt8} {n m : Int} (h : a = l) (h' : n = m) : Ending.returned (.tuple #[.string ⟨a.toArray⟩, .int .i64 n]) = Ending.returned (.tuple #[.string (ofL l), .int .i64 m]) := by rw [h, h']; rfl
set_option maxRecDepth 100000 in
set_option maxHeartbeats 8000000 in
theorem end_in (n : Int) (w : World) :
    Calls Tryd.prog 16 #[.int .i64 n] w fun e w' => e = .returned (.tuple #[.string (ofL (endT (endK n))), .int .i64 (endN (endK n) : Int)]) ∧ Below w.heap.size w w' := by
  have hr1 := Int.tmod_lt_of_pos n (show (0 : Int) < 7 by decide)
  have hr2 := Int.lt_tmod_of_pos n (show (0 : Int) < 7 by decide)
  obtain ⟨q, hq⟩ : ∃ q, n.tmod 7 = q := ⟨_, rfl⟩
  have hk : endK n = upM q 7 := by unfold endK; rw [hq]
  rw [hq] at hr1 hr2
  have hh := hide hk
  clear hk
  rcases (by omega : q = -6 ∨ q = -5 ∨ q = -4 ∨ q = -3 ∨ q = -2 ∨ q = -1 ∨ q = 0 ∨ q = 1 ∨ q = 2 ∨ q = 3 ∨ q = 4 ∨ q = 5 ∨ q = 6) with h | h | h | h | h | h | h | h | h | h | h | h | h <;> subst h <;> clear hr1 hr2 <;>
  · go_enter Tryd.func16, Tryd.ntmps16
    go_upto_region 6 with fail
    go_region
    go_wp2
    go_ret2
    exact ⟨str_n (by rw [unhide hh]; decide) (by rw [unhide hh]; decide), below_al3 _ _ _⟩

end Go.Proofs.YticjilkcobpcjaaDoor
