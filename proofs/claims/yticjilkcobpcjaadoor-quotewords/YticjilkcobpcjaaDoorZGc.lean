/-
  Where a line's end is cut: QuoteWords' own.
-/
import Derived.Test.YticjilkcobpcjaaDoorZGp
set_option linter.unusedSimpArgs false
set_option linter.unusedVariables false
namespace Go.Proofs.YticjilkcobpcjaaDoor
open Go.RowKit Go.Lib

/-- the first line's end of a text, from a byte on -/
def cutF (s : ByteArray) : Nat → Nat → Nat
  | 0, _ => s.size
  | f + 1, i => if i < s.size then (if isLn (by_ s i) = true then i else cutF s f (i + 1)) else s.size
set_option maxRecDepth 100000 in
set_option maxHeartbeats 8000000 in
theorem cut_in (s : ByteArray) (hs : s.size ≤ 1000000000) (w : World) :
    Calls Tryd.prog 17 #[.string s] w fun e w' => e = .returned (.int .i64 (cutF s s.size 0 : Int)) ∧ w = w' := by
  obtain ⟨A, hA⟩ : ∃ A, cutF s s.size 0 = A := ⟨_, rfl⟩
  rw [hA]
  have HA := hide hA
  clear hA
  go_enter Tryd.func17, Tryd.ntmps17
  go_wp2
  go_loopw [3] (fun iv wr => ∃ (i : Nat), iv = .int .i64 (i : Int) ∧ i ≤ s.size ∧ Hid (cutF s (s.size - i) i = A ∧ wr = w)) (fun iv _ => s.size - (RowKit.intOf iv).toNat)
  case atStart => exact ⟨0, by go_num, by omega, hide ⟨unhide HA, rfl⟩⟩
  case round =>
    obtain ⟨i, rfl, his, H⟩ := hrel
    obtain ⟨hA, rfl⟩ := unhide H
    have HA' := hide hA
    clear H hA HA
    by_cases hp : i < s.size
    · have k1 : (i : Int) < (s.size : Int) := by omega
      have k2 : (0 : Int) ≤ (i : Int) := by omega
      have gi := by_get s i hp
      have hst : cutF s (s.size - i) i = if isLn (by_ s i) = true then i else cutF s (s.size - (i + 1)) (i + 1) := by
        rw [show s.size - i = (s.size - (i + 1)) + 1 by omega]
        conv => lhs; unfold cutF
        rw [if_pos hp]
      by_cases h10 : by_ s i = 10
      · have HE := hide (show A = i by rw [← unhide HA', hst, h10]; rfl)
        rw [h10] at gi
        clear hst h10 HA'
        go_wp2
        go_ret
        exact ⟨by rw [unhide HE]; rfl, rfl⟩
      · have n10 : (((by_ s i : Nat) : Int) == 10) = false := by rw [beq_eq_false_iff_ne]; omega
        by_cases h13 : by_ s i = 13
        · have HE := hide (show A = i by rw [← unhide HA', hst, h13]; rfl)
          rw [h13] at gi
          clear hst h10 HA' n10 h13
          go_wp2
          go_ret
          exact ⟨by rw [unhide HE]; rfl, rfl⟩
        · have n13 : (((by_ s i : Nat) : Int) == 13) = false := by rw [beq_eq_false_iff_ne]; omega
          have HS := hide (show cutF s (s.size - (i + 1)) (i + 1) = A by rw [← unhide HA', hst, if_neg (by simp [isLn, h10, h13])])
          clear hst h10 h13 HA'
          go_wp2
          go_roundw
          case rel => exact ⟨i + 1, by go_num, by omega, hide ⟨unhide HS, trivial⟩⟩
          case measure => simp [RowKit.intOf]; omega
    · have k1 : ¬ (i : Int) < (s.size : Int) := by omega
      have k3 : decide ((i : Int) < (s.size : Int)) = false := by rw [decide_eq_false_iff_not]; exact k1
      have HE := hide (show A = s.size by rw [← unhide HA', show s.size - i = 0 by omega]; rfl)
      clear HA'
      go_wp2
      go_ret
      exact ⟨by rw [unhide HE]; rfl, rfl⟩
theorem cut_end (k : Nat) (hk : k < 7) (w : World) :
    Calls Tryd.prog 17 #[.string (ofL (endT k))] w fun e w' => e = .returned (.int .i64 (endC k : Int)) ∧ w = w' := by
  have h := cut_in (ofL (endT k)) (by match k, hk with
    | 0, _ => decide
    | 1, _ => decide
    | 2, _ => decide
    | 3, _ => decide
    | 4, _ => decide
    | 5, _ => decide
    | 6, _ => decide) w
  rw [show cutF (ofL (endT k)) (ofL (endT k)).size 0 = endC k by
    match k, hk with
    | 0, _ => rfl
    | 1, _ => rfl
    | 2, _ => rfl
    | 3, _ => rfl
    | 4, _ => rfl
    | 5, _ => rfl
    | 6, _ => rfl] at h
  exact h

end Go.Proofs.YticjilkcobpcjaaDoor
