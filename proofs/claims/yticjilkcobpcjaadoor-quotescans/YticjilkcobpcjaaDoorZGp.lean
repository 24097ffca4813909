/-
  QuoteWords' own small parts.
-/
import Derived.Test.YticjilkcobpcjaaDoorZSw
import Derived.Test.YticjilkcobpcjaaDoorZSn
set_option linter.unusedSimpArgs false
set_option linter.unusedVariables false
namespace Go.Proofs.YticjilkcobpcjaaDoor
open Go.RowKit Go.Lib

/-- what stands ahead of a word -/
def gapL : Nat → List UInt8
  | 0 => []
  | 1 => [32]
  | 2 => [9]
  | 3 => [32, 32]
  | _ => [32, 9]
/-- a number's rest, from zero up -/
def upM (q k : Int) : Nat := if q < 0 then (q + k).toNat else q.toNat
def gapK (n : Int) (m : Bool) : Nat := if m = true ∧ upM (n.tmod 5) 5 = 0 then 1 else upM (n.tmod 5) 5
theorem gapL_bl (k : Nat) : ∀ b ∈ gapL k, isBl b.toNat = true := by
  unfold gapL
  split <;> decide
theorem gapL_ne (n : Int) : gapL (gapK n true) ≠ [] := by
  unfold gapK
  split
  · simp [gapL]
  · rename_i h
    have h0 : upM (n.tmod 5) 5 ≠ 0 := fun q => h ⟨rfl, q⟩
    unfold gapL
    split
    · exact absurd ‹_› h0
    all_goals simp
theorem str_l {a l : List UInt8} (h : a = l) : Ending.returned (.string ⟨a.toArray⟩) = Ending.returned (.string (ofL l)) := by rw [h]; rfl
theorem below_al (w : World) (o : Obj) : Below w.heap.size w (w.alloc o) := (Below.refl _ _).alloc (Nat.le_refl _) _
set_option maxRecDepth 100000 in
set_option maxHeartbeats 4000000 in
theorem gap_in (n : Int) (m : Bool) (w : World) :
    Calls Tryd.prog 12 #[.int .i64 n, .bool m] w fun e w' => e = .returned (.string (ofL (gapL (gapK n m)))) ∧ Below w.heap.size w w' := by
  have hr1 := Int.tmod_lt_of_pos n (show (0 : Int) < 5 by decide)
  have hr2 := Int.lt_tmod_of_pos n (show (0 : Int) < 5 by decide)
  obtain ⟨q, hq⟩ : ∃ q, n.tmod 5 = q := ⟨_, rfl⟩
  have hk : gapK n m = if m = true ∧ upM q 5 = 0 then 1 else upM q 5 := by unfold gapK; rw [hq]
  rw [hq] at hr1 hr2
  have hh := hide hk
  clear hk
  rcases (by omega : q = -4 ∨ q = -3 ∨ q = -2 ∨ q = -1 ∨ q = 0 ∨ q = 1 ∨ q = 2 ∨ q = 3 ∨ q = 4) with h | h | h | h | h | h | h | h | h <;> subst h <;> clear hr1 hr2 <;> cases m <;>
  · go_enter Tryd.func12, Tryd.ntmps12
    go_wp2
    go_ret
    exact ⟨str_l (by rw [unhide hh]; decide), below_al _ _⟩
/-- how a line ends, by a number -/
def endK (n : Int) : Nat := upM (n.tmod 7) 7
theorem endK_lt (n : Int) : endK n < 7 := by
  have hr1 := Int.tmod_lt_of_pos n (show (0 : Int) < 7 by decide)
  have hr2 := Int.lt_tmod_of_pos n (show (0 : Int) < 7 by decide)
  unfold endK upM
  split <;> omega

end Go.Proofs.YticjilkcobpcjaaDoor
