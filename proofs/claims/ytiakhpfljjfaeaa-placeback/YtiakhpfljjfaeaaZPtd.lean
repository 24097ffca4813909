/-
  What clump.alone, clump.oneSyllable, clump.parted and clump.within answer.
-/
import Derived.Test.YtiakhpfljjfaeaaZEvf
set_option linter.unusedSimpArgs false
set_option linter.unusedVariables false
namespace Go.Proofs.Ytiakhpfljjfaeaa
open Go.RowKit Go.Lib

set_option maxHeartbeats 400000 in
theorem alone_in (c : Int) (w : World) : Calls Try.prog 55 #[.int .i64 c] w fun e w' => e = .returned (.bool (hardC c)) ∧ w' = w := by
  go_enter Try.func55, Try.ntmps55
  go_wp2
  all_goals (go_ret; refine ⟨?_, rfl⟩; unfold hardC; simp_all)

set_option maxRecDepth 100000 in
set_option maxHeartbeats 2000000 in
theorem oneSyllable_in (a b : Int) (w : World) : Calls Try.prog 56 #[.int .i64 a, .int .i64 b] w fun e w' => e = .returned (.bool (hang a b)) ∧ w' = w := by
  go_enter Try.func56, Try.ntmps56
  go_wp2
  all_goals (go_ret; refine ⟨?_, rfl⟩; congr 2; unfold hang; simp_all)

set_option maxRecDepth 100000 in
set_option maxHeartbeats 4000000 in
theorem parted_in (s : ByteArray) (a b : Int) (hs : s.size ≤ 140737488355328) (w : World) :
    Calls Try.prog 37 #[.string s, .int .i64 a, .int .i64 b] w fun e W' => e = .returned (.bool (bk (rc s) a b)) ∧ Below w.heap.size w W' := by
  have hB0 := Below.refl w.heap.size w
  go_enter Try.func37, Try.ntmps37
  go_wp2_with (first | (go_at_call 55; refine (alone_in _ _).mono ?_; rintro e w' ⟨rfl, rfl⟩) | (go_at_call 56; refine (oneSyllable_in _ _ _).mono ?_; rintro e w' ⟨rfl, rfl⟩) | (go_at_call 57; refine (endsWithPicture_in _ hs _).mono ?_; rintro e w' ⟨rfl, hB0⟩) | (go_at_call 58; refine (evenFlags_in _ hs _).mono ?_; rintro e w' ⟨rfl, hB0⟩))
  all_goals (go_ret; refine ⟨?_, hB0⟩; congr 2; clear hB0; unfold bk; simp_all)

/-- a rune that begins m bytes ahead of a place goes beyond it -/
def inb (s : ByteArray) (k m : Nat) : Bool := decide (m ≤ k) && okR s (k - m) && decide (m < wd s (k - m))
def inside (s : ByteArray) (k : Nat) : Bool := inb s k 1 || inb s k 2 || inb s k 3

theorem inside_sync {s : ByteArray} {k : Nat} (hk : k < s.size) : inside s k = false ↔ Sync s k := by
  constructor
  · intro h j hj ho
    simp only [inside, Bool.or_eq_false_iff] at h
    have hw := wd_le s j (by omega)
    have one : ∀ m, inb s k m = false → k - m = j → m ≤ k → j + wd s j ≤ k := by
      intro m hm e hmk
      unfold inb at hm
      rw [e, ho, decide_eq_true hmk] at hm
      simp at hm
      omega
    rcases (by omega : k - 1 = j ∨ k - 2 = j ∨ k - 3 = j ∨ j + 4 ≤ k) with e | e | e | e
    · exact one 1 h.1.1 e (by omega)
    · by_cases h1 : 2 ≤ k
      · exact one 2 h.1.2 e h1
      · exact one 1 h.1.1 (by omega) (by omega)
    · by_cases h1 : 3 ≤ k
      · exact one 3 h.2 e h1
      · by_cases h2 : 2 ≤ k
        · exact one 2 h.1.2 (by omega) h2
        · exact one 1 h.1.1 (by omega) (by omega)
    · omega
  · intro h
    have one : ∀ m, 1 ≤ m → inb s k m = false := by
      intro m hm
      unfold inb
      by_cases hmk : m ≤ k
      · cases ho : okR s (k - m) with
        | false => simp
        | true =>
          have := h (k - m) (by omega) ho
          simp; omega
      · simp [hmk]
    unfold inside
    rw [one 1 (by omega), one 2 (by omega), one 3 (by omega)]; rfl

theorem dK_minus {s : ByteArray} {k n : Nat} (hk : k < s.size) (h : n ≤ k) : dK s ((k : Int) - (n : Int)) = okR s (k - n) := by rw [show ((k : Int) - (n : Int)) = ((k - n : Nat) : Int) by omega, dK_in s (k - n) (by omega)]
theorem dN_minus {s : ByteArray} {k n : Nat} (hk : k < s.size) (h : n ≤ k) : dN s ((k : Int) - (n : Int)) = wd s (k - n) := by rw [show ((k : Int) - (n : Int)) = ((k - n : Nat) : Int) by omega, dN_in s (k - n) (by omega)]
theorem dK_far {s : ByteArray} {k n : Nat} (h : ¬ n ≤ k) : dK s ((k : Int) - (n : Int)) = false := by unfold dK; rw [if_neg (by omega)]


end Go.Proofs.Ytiakhpfljjfaeaa
