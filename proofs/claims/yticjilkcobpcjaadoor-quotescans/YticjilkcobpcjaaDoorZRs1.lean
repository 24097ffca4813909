/-
  The document's own scanner: its parts.
-/
import Derived.Test.YticjilkcobpcjaaDoorZSp
set_option linter.unusedSimpArgs false
set_option linter.unusedVariables false
namespace Go.Proofs.YticjilkcobpcjaaDoor
open Go.RowKit Go.Lib

/-- a word ends ahead of a byte, or with the text -/
def enD (s : ByteArray) (i : Nat) : Bool := decide (¬ i < s.size) || isWe (by_ s i)

theorem refEnds_in (s : ByteArray) (hs : s.size ≤ 1000000000) (i : Nat) (w : World) (hi : i ≤ s.size) :
    Calls Tryd.prog 23 #[.string s, .int .i64 (i : Int)] w fun e w' => e = .returned (.bool (enD s i)) ∧ w = w' := by
  have k2 : (0 : Int) ≤ (i : Int) := by omega
  by_cases hz : i < s.size
  · have gi := by_get s i hz
    have k1 : (i : Int) < (s.size : Int) := by omega
    have k3 : decide ((s.size : Int) ≤ (i : Int)) = false := by rw [decide_eq_false_iff_not]; omega
    have k6 : decide (s.size ≤ i) = false := by rw [decide_eq_false_iff_not]; omega
    have he : enD s i = isWe (by_ s i) := by unfold enD; rw [decide_eq_false (by simpa using hz)]; simp
    rw [he]
    generalize by_ s i = b at *
    clear he
    by_cases h32 : b = 32
    · have hh := hide (show isWe b = true by rw [h32]; rfl)
      have q32 : ((b : Int) == 32) = true := by rw [h32]; rfl
      clear h32
      go_enter Tryd.func23, Tryd.ntmps23
      go_wp2
      go_ret
      exact ⟨by rw [unhide hh]; rfl, rfl⟩
    by_cases h9 : b = 9
    · have hh := hide (show isWe b = true by rw [h9]; rfl)
      have q32 : ((b : Int) == 32) = false := by rw [beq_eq_false_iff_ne]; omega
      have q9 : ((b : Int) == 9) = true := by rw [h9]; rfl
      clear h32 h9
      go_enter Tryd.func23, Tryd.ntmps23
      go_wp2
      go_ret
      exact ⟨by rw [unhide hh]; rfl, rfl⟩
    by_cases h35 : b = 35
    · have hh := hide (show isWe b = true by rw [h35]; rfl)
      have q32 : ((b : Int) == 32) = false := by rw [beq_eq_false_iff_ne]; omega
      have q9 : ((b : Int) == 9) = false := by rw [beq_eq_false_iff_ne]; omega
      have q35 : ((b : Int) == 35) = true := by rw [h35]; rfl
      clear h32 h9 h35
      go_enter Tryd.func23, Tryd.ntmps23
      go_wp2
      go_ret
      exact ⟨by rw [unhide hh]; rfl, rfl⟩
    by_cases h10 : b = 10
    · have hh := hide (show isWe b = true by rw [h10]; rfl)
      have q32 : ((b : Int) == 32) = false := by rw [beq_eq_false_iff_ne]; omega
      have q9 : ((b : Int) == 9) = false := by rw [beq_eq_false_iff_ne]; omega
      have q35 : ((b : Int) == 35) = false := by rw [beq_eq_false_iff_ne]; omega
      have q10 : ((b : Int) == 10) = true := by rw [h10]; rfl
      clear h32 h9 h35 h10
      go_enter Tryd.func23, Tryd.ntmps23
      go_wp2
      go_ret
      exact ⟨by rw [unhide hh]; rfl, rfl⟩
    by_cases h13 : b = 13
    · have hh := hide (show isWe b = true by rw [h13]; rfl)
      have q32 : ((b : Int) == 32) = false := by rw [beq_eq_false_iff_ne]; omega
      have q9 : ((b : Int) == 9) = false := by rw [beq_eq_false_iff_ne]; omega
      have q35 : ((b : Int) == 35) = false := by rw [beq_eq_false_iff_ne]; omega
      have q10 : ((b : Int) == 10) = false := by rw [beq_eq_false_iff_ne]; omega
      have q13 : ((b : Int) == 13) = true := by rw [h13]; rfl
      clear h32 h9 h35 h10 h13
      go_enter Tryd.func23, Tryd.ntmps23
      go_wp2
      go_ret
      exact ⟨by rw [unhide hh]; rfl, rfl⟩
    have hh := hide (show isWe b = false by simp [isWe, isBl, isLn, h32, h9, h35, h10, h13])
    have q32 : ((b : Int) == 32) = false := by rw [beq_eq_false_iff_ne]; omega
    have q9 : ((b : Int) == 9) = false := by rw [beq_eq_false_iff_ne]; omega
    have q35 : ((b : Int) == 35) = false := by rw [beq_eq_false_iff_ne]; omega
    have q10 : ((b : Int) == 10) = false := by rw [beq_eq_false_iff_ne]; omega
    have q13 : ((b : Int) == 13) = false := by rw [beq_eq_false_iff_ne]; omega
    clear h32 h9 h35 h10 h13
    go_enter Tryd.func23, Tryd.ntmps23
    go_wp2
    go_ret
    exact ⟨by rw [unhide hh]; rfl, rfl⟩
  · have k3 : (s.size : Int) ≤ (i : Int) := by omega
    have k4 : s.size ≤ i := by omega
    have k5 : decide ((s.size : Int) ≤ (i : Int)) = true := by rw [decide_eq_true_iff]; omega
    have hh := hide (show enD s i = true by unfold enD; rw [decide_eq_true (by simpa using hz)]; rfl)
    clear hz
    go_enter Tryd.func23, Tryd.ntmps23
    go_wp2
    go_ret
    exact ⟨by rw [unhide hh]; rfl, rfl⟩

end Go.Proofs.YticjilkcobpcjaaDoor
