/-
  What the document's own within and low answer.
-/
import Derived.Test.YtiakhpfljjfaeaaZXDec
set_option linter.unusedSimpArgs false
set_option linter.unusedVariables false
namespace Go.Proofs.Ytiakhpfljjfaeaa
open Go.RowKit Go.Lib

def wI (b f t : Int) : Bool := decide (f ≤ b) && decide (b ≤ t)
theorem wI_yes {b f t : Int} (h : f ≤ b) (h' : b ≤ t) : wI b f t = true := by unfold wI; rw [decide_eq_true h, decide_eq_true h']; rfl
theorem wI_no {b f t : Int} (h : b < f ∨ t < b) : wI b f t = false := by
  unfold wI
  rcases h with h | h
  · rw [decide_eq_false (by omega)]; rfl
  · rw [decide_eq_false (show ¬ b ≤ t by omega), Bool.and_false]

set_option maxHeartbeats 400000 in
theorem within_any (b f t : Int) (w : World) :
    Calls Try.prog 69 #[.int .u8 b, .int .u8 f, .int .u8 t] w fun e w' => e = .returned (.bool (wI b f t)) ∧ w = w' := by
  by_cases h : f ≤ b
  all_goals
    go_enter Try.func69, Try.ntmps69
    go_wp2
    go_ret
    refine ⟨?_, rfl⟩
    first | (simp [wI, h]; done) | (simp [wI, h]; omega)

/-- so many bytes from a place on stand from 80 to bf -/
def lowB (s : ByteArray) (k n : Nat) : Bool := (List.range n).all fun i => decide (k + i < s.size ∧ 128 ≤ by_ s (k + i) ∧ by_ s (k + i) ≤ 191)

theorem lowB_iff (s : ByteArray) (k n : Nat) : lowB s k n = true ↔ ∀ i, i < n → k + i < s.size ∧ 128 ≤ by_ s (k + i) ∧ by_ s (k + i) ≤ 191 := by
  unfold lowB; simp [List.all_eq_true]

theorem lowB_no {s : ByteArray} {k n i : Nat} (hi : i < n) (h : ¬ (k + i < s.size ∧ 128 ≤ by_ s (k + i) ∧ by_ s (k + i) ≤ 191)) : lowB s k n = false := by
  rw [← Bool.not_eq_true, lowB_iff]; exact fun hh => h (hh i hi)

set_option maxHeartbeats 1000000 in
theorem low_any (s : ByteArray) (k n : Nat) (w : World) (hs : s.size ≤ 140737488355328) (hk : k ≤ s.size) (hn : n ≤ 4) :
    Calls Try.prog 70 #[.string s, .int .i64 k, .int .i64 n] w fun e w' => e = .returned (.bool (lowB s k n)) ∧ w = w' := by
  go_enter Try.func70, Try.ntmps70
  go_wp2
  go_loop [7] (fun i => ∃ j : Nat, j ≤ n ∧ i = .int .i64 j ∧ Hid (∀ i, i < j → k + i < s.size ∧ 128 ≤ by_ s (k + i) ∧ by_ s (k + i) ≤ 191)) (fun i => n - (intOf i).toNat)
  case atStart => exact ⟨0, by omega, rfl, hide (fun i h => by omega)⟩
  case round =>
    obtain ⟨j, hj, rfl, hb⟩ := hrel
    by_cases hlt : j < n
    · by_cases hz : k + j < s.size
      · have hg := by_get s (k + j) hz
        have hl := by_lt s (k + j)
        by_cases hin : 128 ≤ by_ s (k + j) ∧ by_ s (k + j) ≤ 191
        · obtain ⟨h1, h2⟩ := hin
          have hwi : wI (by_ s (k + j) : Int) 128 191 = true := wI_yes (by omega) (by omega)
          go_wp2_with (go_at_call 69; refine (within_any _ _ _ _).mono ?_; rintro r w' ⟨rfl, rfl⟩; rw [hwi])
          go_round
          case rel => exact ⟨j + 1, by omega, by go_num, hide (fun i hi => by
            by_cases e : i = j
            · subst e; exact ⟨hz, h1, h2⟩
            · exact unhide hb i (by omega))⟩
          case measure => simp [intOf]; omega
        · have hwi : wI (by_ s (k + j) : Int) 128 191 = false := wI_no (by omega)
          have hlo := hide (lowB_no hlt (fun h => hin h.2))
          go_wp2_with (go_at_call 69; refine (within_any _ _ _ _).mono ?_; rintro r w' ⟨rfl, rfl⟩; rw [hwi])
          go_ret
          exact ⟨by rw [unhide hlo]; rfl, rfl⟩
      · have hlo := hide (lowB_no hlt (fun h => hz h.1))
        go_wp2
        go_ret
        exact ⟨by rw [unhide hlo]; rfl, rfl⟩
    · have hlo := hide ((lowB_iff s k n).2 (fun i hi => unhide hb i (by omega)))
      go_wp2
      go_ret
      exact ⟨by rw [unhide hlo]; rfl, rfl⟩

theorem low_int (s : ByteArray) (a m : Int) (w : World) (hs : s.size ≤ 140737488355328) (h0 : 0 ≤ a) (ha : a ≤ s.size) (hm : 0 ≤ m) (hm4 : m ≤ 4) :
    Calls Try.prog 70 #[.string s, .int .i64 a, .int .i64 m] w fun e w' => e = .returned (.bool (lowB s a.toNat m.toNat)) ∧ w = w' := by
  obtain ⟨k, rfl⟩ := Int.eq_ofNat_of_zero_le h0
  obtain ⟨n, rfl⟩ := Int.eq_ofNat_of_zero_le hm
  exact low_any s k n w hs (by omega) (by omega)

/-- what begins answers -/
def bR (s : ByteArray) (k : Nat) : Int := if okR s k then (rn s k : Int) else 0
def bN (s : ByteArray) (k : Nat) : Int := if okR s k then (wd s k : Int) else 0

theorem ret_beg {s : ByteArray} {k : Nat} {a b : Int} {r n : Nat} (h : Utf8.decode s k = (r, n)) (ho : okR s k = true) (ha : a = r) (hb : b = n) :
    Ending.returned (.tuple #[.int .i32 a, .int .i64 b]) = .returned (.tuple #[.int .i32 (bR s k), .int .i64 (bN s k)]) := by
  unfold bR bN; rw [if_pos ho, if_pos ho, ha, hb, rn_of h, wd_of h]
theorem ret_beg0 {s : ByteArray} {k : Nat} (h : Utf8.decode s k = (65533, 1)) :
    Ending.returned (.tuple #[.int .i32 0, .int .i64 0]) = .returned (.tuple #[.int .i32 (bR s k), .int .i64 (bN s k)]) := by
  unfold bR bN; rw [ok_bad h]; rfl

theorem dec_fail2 (s : ByteArray) (k : Nat) (hk : k < s.size) (hw : 2 ≤ hW (by_ s k)) (h : ¬ (k + 1 < s.size ∧ g1 s k)) : Utf8.decode s k = (65533, 1) := by
  by_cases hn : s.size - k < hW (by_ s k)
  · exact dec_short s k hk hn
  · exact dec_no1 s k hk hw (fun g => h ⟨by omega, g⟩)
theorem dec_fail3 (s : ByteArray) (k : Nat) (hk : k < s.size) (hw : 3 ≤ hW (by_ s k)) (h : ¬ (k + 2 < s.size ∧ g1 s k ∧ g2 s k)) : Utf8.decode s k = (65533, 1) := by
  by_cases hn : s.size - k < hW (by_ s k)
  · exact dec_short s k hk hn
  · by_cases hg : g1 s k
    · exact dec_no2 s k hk hw (fun g => h ⟨by omega, hg, g⟩)
    · exact dec_no1 s k hk (by omega) hg
theorem dec_fail4 (s : ByteArray) (k : Nat) (hk : k < s.size) (hw : hW (by_ s k) = 4) (h : ¬ (k + 3 < s.size ∧ g1 s k ∧ g2 s k ∧ g3 s k)) : Utf8.decode s k = (65533, 1) := by
  by_cases hn : s.size - k < hW (by_ s k)
  · exact dec_short s k hk hn
  · by_cases hg : g1 s k
    · by_cases hg2 : g2 s k
      · exact dec_no3 s k hk hw (fun g => h ⟨by omega, hg, hg2, g⟩)
      · exact dec_no2 s k hk (by omega) hg2
    · exact dec_no1 s k hk (by omega) hg

theorem low1_iff (s : ByteArray) (k : Nat) : lowB s ((k : Int) + 1).toNat (1 : Int).toNat = true ↔ (k + 1 < s.size ∧ 128 ≤ by_ s (k + 1) ∧ by_ s (k + 1) ≤ 191) := by
  rw [show ((k : Int) + 1).toNat = k + 1 from by omega, show (1 : Int).toNat = 1 from rfl, lowB_iff]
  exact ⟨fun h => h 0 (by omega), fun h i hi => by obtain rfl : i = 0 := by omega
                                                   exact h⟩
theorem low2_iff (s : ByteArray) (k : Nat) : lowB s ((k : Int) + 1).toNat (2 : Int).toNat = true ↔ (k + 2 < s.size ∧ 128 ≤ by_ s (k + 1) ∧ by_ s (k + 1) ≤ 191 ∧ g2 s k) := by
  rw [show ((k : Int) + 1).toNat = k + 1 from by omega, show (2 : Int).toNat = 2 from rfl, lowB_iff]
  unfold g2
  constructor
  · intro h
    have h0 := h 0 (by omega)
    have h1 := h 1 (by omega)
    exact ⟨h1.1, h0.2.1, h0.2.2, h1.2.1, h1.2.2⟩
  · rintro ⟨h1, h2, h3, h4, h5⟩ i hi
    rcases (by omega : i = 0 ∨ i = 1) with rfl | rfl
    · exact ⟨by omega, h2, h3⟩
    · exact ⟨h1, h4, h5⟩
theorem low3_iff (s : ByteArray) (k : Nat) : lowB s ((k : Int) + 1).toNat (3 : Int).toNat = true ↔ (k + 3 < s.size ∧ 128 ≤ by_ s (k + 1) ∧ by_ s (k + 1) ≤ 191 ∧ g2 s k ∧ g3 s k) := by
  rw [show ((k : Int) + 1).toNat = k + 1 from by omega, show (3 : Int).toNat = 3 from rfl, lowB_iff]
  unfold g2 g3
  constructor
  · intro h
    have h0 := h 0 (by omega)
    have h1 := h 1 (by omega)
    have h2 := h 2 (by omega)
    exact ⟨h2.1, h0.2.1, h0.2.2, ⟨h1.2.1, h1.2.2⟩, h2.2.1, h2.2.2⟩
  · rintro ⟨h1, h2, h3, ⟨h4, h5⟩, h6, h7⟩ i hi
    rcases (by omega : i = 0 ∨ i = 1 ∨ i = 2) with rfl | rfl | rfl
    · exact ⟨by omega, h2, h3⟩
    · exact ⟨by omega, h4, h5⟩
    · exact ⟨h1, h6, h7⟩

end Go.Proofs.Ytiakhpfljjfaeaa
