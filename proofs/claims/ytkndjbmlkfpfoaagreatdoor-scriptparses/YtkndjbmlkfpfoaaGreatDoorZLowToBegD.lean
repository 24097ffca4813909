/-
  What the document's own within and low answer.
-/
import Derived.Test.YtkndjbmlkfpfoaaGreatDoorZDecToDec4
import Derived.Deep.QuietTactic
import Derived.BigQuiet

set_option linter.unusedSimpArgs false
set_option linter.unusedVariables false
namespace Go.Proofs.YtkndjbmlkfpfoaaGreatDoor
open Go.RowKit Go.Lib

def wI (b f t : Int) : Bool := decide (f ≤ b) && decide (b ≤ t)
theorem wI_yes {b f t : Int} (h : f ≤ b) (h' : b ≤ t) : wI b f t = true := by unfold wI; rw [decide_eq_true h, decide_eq_true h']; rfl
theorem wI_no {b f t : Int} (h : b < f ∨ t < b) : wI b f t = false := by
  unfold wI
  rcases h with h | h
  · rw [decide_eq_false (by omega)]; rfl
  · rw [decide_eq_false (show ¬ b ≤ t by omega), Bool.and_false]

set_option maxHeartbeats 400000 in
theorem within_any (b f t : Int) (w : World) :
    Calls Tryz.prog 121 #[.int .u8 b, .int .u8 f, .int .u8 t] w fun e w' => e = .returned (.bool (wI b f t)) ∧ w = w' := by
  by_cases h : f ≤ b
  all_goals
    go_enter Tryz.func121, Tryz.ntmps121
    go_wp2
    go_ret
    refine ⟨?_, rfl⟩
    first | (simp [wI, h]; done) | (simp [wI, h]; omega)

/-- so many bytes from a place on stand from 80 to bf -/
def lowB (s : ByteArray) (k n : Nat) : Bool := (List.range n).all fun i => decide (k + i < s.size ∧ 128 ≤ by_ s (k + i) ∧ by_ s (k + i) ≤ 191)

theorem lowB_iff (s : ByteArray) (k n : Nat) : lowB s k n = true ↔ ∀ i, i < n → k + i < s.size ∧ 128 ≤ by_ s (k + i) ∧ by_ s (k + i) ≤ 191 := by
  unfold lowB; simp [List.all_eq_true]

theorem lowB_no {s : ByteArray} {k n i : Nat} (hi : i < n) (h : ¬ (k + i < s.size ∧ 128 ≤ by_ s (k + i) ∧ by_ s (k + i) ≤ 191)) : lowB s k n = false := by
  rw [← Bool.not_eq_true, lowB_iff]; exact fun hh => h (hh i hi)

set_option maxHeartbeats 1000000 in
theorem low_any (s : ByteArray) (k n : Nat) (w : World) (hs : s.size ≤ 140737488355328) (hk : k ≤ s.size) (hn : n ≤ 4) :
    Calls Tryz.prog 122 #[.string s, .int .i64 k, .int .i64 n] w fun e w' => e = .returned (.bool (lowB s k n)) ∧ w = w' := by
  go_enter Tryz.func122, Tryz.ntmps122
  go_wp2
  go_loop [7] (fun i => ∃ j : Nat, j ≤ n ∧ i = .int .i64 j ∧ Hid (∀ i, i < j → k + i < s.size ∧ 128 ≤ by_ s (k + i) ∧ by_ s (k + i) ≤ 191)) (fun i => n - (intOf i).toNat)
  case atStart => exact ⟨0, by omega, rfl, hide (fun i h => by omega)⟩
  case round =>
    obtain ⟨j, hj, rfl, hb⟩ := hrel
    by_cases hlt : j < n
    · by_cases hz : k + j < s.size
      · have hg := by_get s (k + j) hz
        have hl := by_lt s (k + j)
        by_cases hin : 128 ≤ by_ s (k + j) ∧ by_ s (k + j) ≤ 191
        · obtain ⟨h1, h2⟩ := hin
          have hwi : wI (by_ s (k + j) : Int) 128 191 = true := wI_yes (by omega) (by omega)
          go_wp2_with (go_at_call 121; refine (within_any _ _ _ _).mono ?_; rintro r w' ⟨rfl, rfl⟩; rw [hwi])
          go_round
          case rel => exact ⟨j + 1, by omega, by go_num, hide (fun i hi => by
            by_cases e : i = j
            · subst e; exact ⟨hz, h1, h2⟩
            · exact unhide hb i (by omega))⟩
          case measure => simp [intOf]; omega
        · have hwi : wI (by_ s (k + j) : Int) 128 191 = false := wI_no (by omega)
          have hlo := hide (lowB_no hlt (fun h => hin h.2))
          go_wp2_with (go_at_call 121; refine (within_any _ _ _ _).mono ?_; rintro r w' ⟨rfl, rfl⟩; rw [hwi])
          go_ret
          exact ⟨by rw [unhide hlo]; rfl, rfl⟩
      · have hlo := hide (lowB_no hlt (fun h => hz h.1))
        go_wp2
        go_ret
        exact ⟨by rw [unhide hlo]; rfl, rfl⟩
    · have hlo := hide ((lowB_iff s k n).2 (fun i hi => unhide hb i (by omega)))
      go_wp2
      go_ret
      exact ⟨by rw [unhide hlo]; rfl, rfl⟩

theorem low_int (s : ByteArray) (a m : Int) (w : World) (hs : s.size ≤ 140737488355328) (h0 : 0 ≤ a) (ha : a ≤ s.size) (hm : 0 ≤ m) (hm4 : m ≤ 4) :
    Calls Tryz.prog 122 #[.string s, .int .i64 a, .int .i64 m] w fun e w' => e = .returned (.bool (lowB s a.toNat m.toNat)) ∧ w = w' := by
  obtain ⟨k, rfl⟩ := Int.eq_ofNat_of_zero_le h0
  obtain ⟨n, rfl⟩ := Int.eq_ofNat_of_zero_le hm
  exact low_any s k n w hs (by omega) (by omega)

/-- what begins answers -/
def bR (s : ByteArray) (k : Nat) : Int := if okR s k then (rn s k : Int) else 0
def bN (s : ByteArray) (k : Nat) : Int := if okR s k then (wd s k : Int) else 0

theorem ret_beg {s : ByteArray} {k : Nat} {a b : Int} {r n : Nat} (h : Utf8.decode s k = (r, n)) (ho : okR s k = true) (ha : a = r) (hb : b = n) :
    Ending.returned (.tuple #[.int .i32 a, .int .i64 b]) = .returned (.tuple #[.int .i32 (bR s k), .int .i64 (bN s k)]) := by
  unfold bR bN; rw [if_pos ho, if_pos ho, ha, hb, rn_of h, wd_of h]
theorem ret_beg0 {s : ByteArray} {k : Nat} (h : Utf8.decode s k = (65533, 1)) :
    Ending.returned (.tuple #[.int .i32 0, .int .i64 0]) = .returned (.tuple #[.int .i32 (bR s k), .int .i64 (bN s k)]) := by
  unfold bR bN; rw [ok_bad h]; rfl

theorem dec_fail2 (s : ByteArray) (k : Nat) (hk : k < s.size) (hw : 2 ≤ hW (by_ s k)) (h : ¬ (k + 1 < s.size ∧ g1 s k)) : Utf8.decode s k = (65533, 1) := by
  by_cases hn : s.size - k < hW (by_ s k)
  · exact dec_short s k hk hn
  · exact dec_no1 s k hk hw (fun g => h ⟨by omega, g⟩)
theorem dec_fail3 (s : ByteArray) (k : Nat) (hk : k < s.size) (hw : 3 ≤ hW (by_ s k)) (h : ¬ (k + 2 < s.size ∧ g1 s k ∧ g2 s k)) : Utf8.decode s k = (65533, 1) := by
  by_cases hn : s.size - k < hW (by_ s k)
  · exact dec_short s k hk hn
  · by_cases hg : g1 s k
    · exact dec_no2 s k hk hw (fun g => h ⟨by omega, hg, g⟩)
    · exact dec_no1 s k hk (by omega) hg
theorem dec_fail4 (s : ByteArray) (k : Nat) (hk : k < s.size) (hw : hW (by_ s k) = 4) (h : ¬ (k + 3 < s.size ∧ g1 s k ∧ g2 s k ∧ g3 s k)) : Utf8.decode s k = (65533, 1) := by
  by_cases hn : s.size - k < hW (by_ s k)
  · exact dec_short s k hk hn
  · by_cases hg : g1 s k
    · by_cases hg2 : g2 s k
      · exact dec_no3 s k hk hw (fun g => h ⟨by omega, hg, hg2, g⟩)
      · exact dec_no2 s k hk (by omega) hg2
    · exact dec_no1 s k hk (by omega) hg

theorem low1_iff (s : ByteArray) (k : Nat) : lowB s ((k : Int) + 1).toNat (1 : Int).toNat = true ↔ (k + 1 < s.size ∧ 128 ≤ by_ s (k + 1) ∧ by_ s (k + 1) ≤ 191) := by
  rw [show ((k : Int) + 1).toNat = k + 1 from by omega, show (1 : Int).toNat = 1 from rfl, lowB_iff]
  exact ⟨fun h => h 0 (by omega), fun h i hi => by obtain rfl : i = 0 := by omega
                                                   exact h⟩
theorem low2_iff (s : ByteArray) (k : Nat) : lowB s ((k : Int) + 1).toNat (2 : Int).toNat = true ↔ (k + 2 < s.size ∧ 128 ≤ by_ s (k + 1) ∧ by_ s (k + 1) ≤ 191 ∧ g2 s k) := by
  rw [show ((k : Int) + 1).toNat = k + 1 from by omega, show (2 : Int).toNat = 2 from rfl, lowB_iff]
  unfold g2
  constructor
  · intro h
    have h0 := h 0 (by omega)
    have h1 := h 1 (by omega)
    exact ⟨h1.1, h0.2.1, h0.2.2, h1.2.1, h1.2.2⟩
  · rintro ⟨h1, h2, h3, h4, h5⟩ i hi
    rcases (by omega : i = 0 ∨ i = 1) with rfl | rfl
    · exact ⟨by omega, h2, h3⟩
    · exact ⟨h1, h4, h5⟩
theorem low3_iff (s : ByteArray) (k : Nat) : lowB s ((k : Int) + 1).toNat (3 : Int).toNat = true ↔ (k + 3 < s.size ∧ 128 ≤ by_ s (k + 1) ∧ by_ s (k + 1) ≤ 191 ∧ g2 s k ∧ g3 s k) := by
  rw [show ((k : Int) + 1).toNat = k + 1 from by omega, show (3 : Int).toNat = 3 from rfl, lowB_iff]
  unfold g2 g3
  constructor
  · intro h
    have h0 := h 0 (by omega)
    have h1 := h 1 (by omega)
    have h2 := h 2 (by omega)
    exact ⟨h2.1, h0.2.1, h0.2.2, ⟨h1.2.1, h1.2.2⟩, h2.2.1, h2.2.2⟩
  · rintro ⟨h1, h2, h3, ⟨h4, h5⟩, h6, h7⟩ i hi
    rcases (by omega : i = 0 ∨ i = 1 ∨ i = 2) with rfl | rfl | rfl
    · exact ⟨by omega, h2, h3⟩
    · exact ⟨by omega, h4, h5⟩
    · exact ⟨h1, h6, h7⟩

end Go.Proofs.YtkndjbmlkfpfoaaGreatDoor

/-
  What the document's own begins answers, a class of first bytes at a time.
-/
set_option linter.unusedSimpArgs false
set_option linter.unusedVariables false
namespace Go.Proofs.YtkndjbmlkfpfoaaGreatDoor
open Go.RowKit Go.Lib

set_option maxHeartbeats 1000000 in
theorem begins_00 (s : ByteArray) (k : Nat) (w : World) (hs : s.size ≤ 140737488355328) (hk : k < s.size) (hhi : by_ s k ≤ 127) :
    Calls Tryz.prog 107 #[.string s, .int .i64 k] w fun e w' => e = .returned (.tuple #[.int .i32 (bR s k), .int .i64 (bN s k)]) ∧ w = w' := by
  have hb := by_get s k hk
  have hl := by_lt s k
  have hd := hide (dec_one s k hhi)
  by_cases hz : k + 1 < s.size
  · have hb1 := by_get s (k + 1) hz
    have hl1 := by_lt s (k + 1)
    go_enter Tryz.func107, Tryz.ntmps107
    go_wp2
    go_ret2
    exact ⟨ret_beg (unhide hd) (ok_one (unhide hd) (by omega)) rfl rfl, rfl⟩
  · go_enter Tryz.func107, Tryz.ntmps107
    go_wp2
    go_ret2
    exact ⟨ret_beg (unhide hd) (ok_one (unhide hd) (by omega)) rfl rfl, rfl⟩

set_option maxHeartbeats 1000000 in
theorem begins_A1 (s : ByteArray) (k : Nat) (w : World) (hs : s.size ≤ 140737488355328) (hk : k < s.size) (hlo : 128 ≤ by_ s k) (hhi : by_ s k ≤ 193) :
    Calls Tryz.prog 107 #[.string s, .int .i64 k] w fun e w' => e = .returned (.tuple #[.int .i32 (bR s k), .int .i64 (bN s k)]) ∧ w = w' := by
  have hb := by_get s k hk
  have hl := by_lt s k
  have hw : hW (by_ s k) = 0 := by unfold hW; (repeat' split) <;> omega
  have Hw := hide hw
  clear hw
  have fa0 : wI (by_ s k : Int) 194 223 = false := wI_no (by omega)
  have fa1 : wI (by_ s k : Int) 225 236 = false := wI_no (by omega)
  have fa2 : wI (by_ s k : Int) 238 239 = false := wI_no (by omega)
  have fa3 : wI (by_ s k : Int) 241 243 = false := wI_no (by omega)
  have fe0 : ((by_ s k : Int) == 224) = false := by rw [beq_eq_false_iff_ne]; omega
  have fe1 : ((by_ s k : Int) == 237) = false := by rw [beq_eq_false_iff_ne]; omega
  have fe2 : ((by_ s k : Int) == 240) = false := by rw [beq_eq_false_iff_ne]; omega
  have fe3 : ((by_ s k : Int) == 244) = false := by rw [beq_eq_false_iff_ne]; omega
  have hd := hide (dec_bad s k (unhide Hw))
  by_cases hz : k + 1 < s.size
  · have hb1 := by_get s (k + 1) hz
    have hl1 := by_lt s (k + 1)
    go_enter Tryz.func107, Tryz.ntmps107
    go_wp2_with (go_at_call 121; refine (within_any _ _ _ _).mono ?_; rintro r w' ⟨rfl, rfl⟩; simp only [fa0, fa1, fa2, fa3])
    go_ret2
    exact ⟨ret_beg0 (unhide hd), rfl⟩
  · skip
    go_enter Tryz.func107, Tryz.ntmps107
    go_wp2_with (go_at_call 121; refine (within_any _ _ _ _).mono ?_; rintro r w' ⟨rfl, rfl⟩; simp only [fa0, fa1, fa2, fa3])
    go_ret2
    exact ⟨ret_beg0 (unhide hd), rfl⟩

set_option maxHeartbeats 1000000 in
theorem begins_C2 (s : ByteArray) (k : Nat) (w : World) (hs : s.size ≤ 140737488355328) (hk : k < s.size) (hlo : 194 ≤ by_ s k) (hhi : by_ s k ≤ 223) :
    Calls Tryz.prog 107 #[.string s, .int .i64 k] w fun e w' => e = .returned (.tuple #[.int .i32 (bR s k), .int .i64 (bN s k)]) ∧ w = w' := by
  have hb := by_get s k hk
  have hl := by_lt s k
  have hw : hW (by_ s k) = 2 := by unfold hW; (repeat' split) <;> omega
  have Hw := hide hw
  clear hw
  have fa0 : wI (by_ s k : Int) 194 223 = true := wI_yes (by omega) (by omega)
  have fa1 : wI (by_ s k : Int) 225 236 = false := wI_no (by omega)
  have fa2 : wI (by_ s k : Int) 238 239 = false := wI_no (by omega)
  have fa3 : wI (by_ s k : Int) 241 243 = false := wI_no (by omega)
  have fe0 : ((by_ s k : Int) == 224) = false := by rw [beq_eq_false_iff_ne]; omega
  have fe1 : ((by_ s k : Int) == 237) = false := by rw [beq_eq_false_iff_ne]; omega
  have fe2 : ((by_ s k : Int) == 240) = false := by rw [beq_eq_false_iff_ne]; omega
  have fe3 : ((by_ s k : Int) == 244) = false := by rw [beq_eq_false_iff_ne]; omega
  have Hlo : Hid (hLo (by_ s k) = 128) := hide (by unfold hLo; (repeat' split) <;> omega)
  have Hhi : Hid (hHi (by_ s k) = 191) := hide (by unfold hHi; (repeat' split) <;> omega)
  by_cases hz : k + 1 < s.size
  · have hb1 := by_get s (k + 1) hz
    have hl1 := by_lt s (k + 1)
    cases hL : lowB s ((k : Int) + 1).toNat (1 : Int).toNat with
    | true =>
      have hL' := (low1_iff s k).1 hL
      have hd := hide (dec_two s k hk (unhide Hw) (by omega) (by unfold g1; rw [unhide Hlo, unhide Hhi]; omega))
      obtain ⟨hz1, hz2, hz3⟩ := hL'
      go_enter Tryz.func107, Tryz.ntmps107
      go_wp2_with (first | (go_at_call 121; refine (within_any _ _ _ _).mono ?_; rintro r w' ⟨rfl, rfl⟩; simp only [fa0, fa1, fa2, fa3]) | (go_at_call 122; refine (low_int s _ _ _ hs (by omega) (by omega) (by omega) (by omega)).mono ?_; rintro r w' ⟨rfl, rfl⟩; simp only [hL]))
      go_ret2
      exact ⟨ret_beg (unhide hd) (ok_wide (unhide hd) (by decide)) (by omega) rfl, rfl⟩
    | false =>
      have hd := hide (dec_fail2 s k hk (by rw [unhide Hw]; decide) (fun h => by
        obtain ⟨h1, h2⟩ := h
        unfold g1 at h2; rw [unhide Hlo, unhide Hhi] at h2
        rw [(low1_iff s k).2 ⟨h1, by omega, by omega⟩] at hL
        cases hL))
      go_enter Tryz.func107, Tryz.ntmps107
      go_wp2_with (first | (go_at_call 121; refine (within_any _ _ _ _).mono ?_; rintro r w' ⟨rfl, rfl⟩; simp only [fa0, fa1, fa2, fa3]) | (go_at_call 122; refine (low_int s _ _ _ hs (by omega) (by omega) (by omega) (by omega)).mono ?_; rintro r w' ⟨rfl, rfl⟩; simp only [hL]))
      go_ret2
      exact ⟨ret_beg0 (unhide hd), rfl⟩
  · have hd := hide (dec_short s k hk (by rw [unhide Hw]; omega))
    have hL : lowB s ((k : Int) + 1).toNat (1 : Int).toNat = false := by
      rw [← Bool.not_eq_true, low1_iff]; omega
    go_enter Tryz.func107, Tryz.ntmps107
    go_wp2_with (first | (go_at_call 121; refine (within_any _ _ _ _).mono ?_; rintro r w' ⟨rfl, rfl⟩; simp only [fa0, fa1, fa2, fa3]) | (go_at_call 122; refine (low_int s _ _ _ hs (by omega) (by omega) (by omega) (by omega)).mono ?_; rintro r w' ⟨rfl, rfl⟩; simp only [hL]))
    go_ret2
    exact ⟨ret_beg0 (unhide hd), rfl⟩

set_option maxHeartbeats 1000000 in
theorem begins_F5 (s : ByteArray) (k : Nat) (w : World) (hs : s.size ≤ 140737488355328) (hk : k < s.size) (hlo : 245 ≤ by_ s k) (hhi : by_ s k ≤ 255) :
    Calls Tryz.prog 107 #[.string s, .int .i64 k] w fun e w' => e = .returned (.tuple #[.int .i32 (bR s k), .int .i64 (bN s k)]) ∧ w = w' := by
  have hb := by_get s k hk
  have hl := by_lt s k
  have hw : hW (by_ s k) = 0 := by unfold hW; (repeat' split) <;> omega
  have Hw := hide hw
  clear hw
  have fa0 : wI (by_ s k : Int) 194 223 = false := wI_no (by omega)
  have fa1 : wI (by_ s k : Int) 225 236 = false := wI_no (by omega)
  have fa2 : wI (by_ s k : Int) 238 239 = false := wI_no (by omega)
  have fa3 : wI (by_ s k : Int) 241 243 = false := wI_no (by omega)
  have fe0 : ((by_ s k : Int) == 224) = false := by rw [beq_eq_false_iff_ne]; omega
  have fe1 : ((by_ s k : Int) == 237) = false := by rw [beq_eq_false_iff_ne]; omega
  have fe2 : ((by_ s k : Int) == 240) = false := by rw [beq_eq_false_iff_ne]; omega
  have fe3 : ((by_ s k : Int) == 244) = false := by rw [beq_eq_false_iff_ne]; omega
  have hd := hide (dec_bad s k (unhide Hw))
  by_cases hz : k + 1 < s.size
  · have hb1 := by_get s (k + 1) hz
    have hl1 := by_lt s (k + 1)
    go_enter Tryz.func107, Tryz.ntmps107
    go_wp2_with (go_at_call 121; refine (within_any _ _ _ _).mono ?_; rintro r w' ⟨rfl, rfl⟩; simp only [fa0, fa1, fa2, fa3])
    go_ret2
    exact ⟨ret_beg0 (unhide hd), rfl⟩
  · skip
    go_enter Tryz.func107, Tryz.ntmps107
    go_wp2_with (go_at_call 121; refine (within_any _ _ _ _).mono ?_; rintro r w' ⟨rfl, rfl⟩; simp only [fa0, fa1, fa2, fa3])
    go_ret2
    exact ⟨ret_beg0 (unhide hd), rfl⟩

end Go.Proofs.YtkndjbmlkfpfoaaGreatDoor

/-
  What the document's own begins answers, a class of first bytes at a time.
-/
set_option linter.unusedSimpArgs false
set_option linter.unusedVariables false
namespace Go.Proofs.YtkndjbmlkfpfoaaGreatDoor
open Go.RowKit Go.Lib

set_option maxHeartbeats 1000000 in
theorem begins_E0 (s : ByteArray) (k : Nat) (w : World) (hs : s.size ≤ 140737488355328) (hk : k < s.size) (hlo : 224 ≤ by_ s k) (hhi : by_ s k ≤ 224) :
    Calls Tryz.prog 107 #[.string s, .int .i64 k] w fun e w' => e = .returned (.tuple #[.int .i32 (bR s k), .int .i64 (bN s k)]) ∧ w = w' := by
  have hb := by_get s k hk
  have hl := by_lt s k
  have hw : hW (by_ s k) = 3 := by unfold hW; (repeat' split) <;> omega
  have Hw := hide hw
  clear hw
  have fa0 : wI (by_ s k : Int) 194 223 = false := wI_no (by omega)
  have fa1 : wI (by_ s k : Int) 225 236 = false := wI_no (by omega)
  have fa2 : wI (by_ s k : Int) 238 239 = false := wI_no (by omega)
  have fa3 : wI (by_ s k : Int) 241 243 = false := wI_no (by omega)
  have fe0 : ((by_ s k : Int) == 224) = true := by rw [beq_iff_eq]; omega
  have fe1 : ((by_ s k : Int) == 237) = false := by rw [beq_eq_false_iff_ne]; omega
  have fe2 : ((by_ s k : Int) == 240) = false := by rw [beq_eq_false_iff_ne]; omega
  have fe3 : ((by_ s k : Int) == 244) = false := by rw [beq_eq_false_iff_ne]; omega
  have Hlo : Hid (hLo (by_ s k) = 160) := hide (by unfold hLo; (repeat' split) <;> omega)
  have Hhi : Hid (hHi (by_ s k) = 191) := hide (by unfold hHi; (repeat' split) <;> omega)
  by_cases hz : k + 1 < s.size
  · have hb1 := by_get s (k + 1) hz
    have hl1 := by_lt s (k + 1)
    by_cases hwb : 160 ≤ by_ s (k + 1) ∧ by_ s (k + 1) ≤ 191
    · obtain ⟨hw1, hw2⟩ := hwb
      have fb : wI (by_ s (k + 1) : Int) 160 191 = true := wI_yes (by omega) (by omega)
      cases hL : lowB s ((k : Int) + 1).toNat (2 : Int).toNat with
      | true =>
        have hL' := (low2_iff s k).1 hL
        have hd := hide (dec_three s k hk (unhide Hw) (by omega) (by unfold g1; rw [unhide Hlo, unhide Hhi]; omega) hL'.2.2.2)
        have hg2 := hL'.2.2.2
        unfold g2 at hg2
        have hb2 := by_get s (k + 2) (by omega)
        have hl2 := by_lt s (k + 2)
        obtain ⟨hz1, hz2, hz3, _⟩ := hL'
        go_enter Tryz.func107, Tryz.ntmps107
        go_wp2_with (first | (go_at_call 121; refine (within_any _ _ _ _).mono ?_; rintro r w' ⟨rfl, rfl⟩; simp only [fa0, fa1, fa2, fa3, fb]) | (go_at_call 122; refine (low_int s _ _ _ hs (by omega) (by omega) (by omega) (by omega)).mono ?_; rintro r w' ⟨rfl, rfl⟩; simp only [hL]))
        go_ret2
        exact ⟨ret_beg (unhide hd) (ok_wide (unhide hd) (by decide)) (by omega) rfl, rfl⟩
      | false =>
        have hd := hide (dec_fail3 s k hk (by rw [unhide Hw]; decide) (fun h => by
          obtain ⟨h1, h2, h3⟩ := h
          unfold g1 at h2; rw [unhide Hlo, unhide Hhi] at h2
          rw [(low2_iff s k).2 ⟨h1, by omega, by omega, h3⟩] at hL
          cases hL))
        go_enter Tryz.func107, Tryz.ntmps107
        go_wp2_with (first | (go_at_call 121; refine (within_any _ _ _ _).mono ?_; rintro r w' ⟨rfl, rfl⟩; simp only [fa0, fa1, fa2, fa3, fb]) | (go_at_call 122; refine (low_int s _ _ _ hs (by omega) (by omega) (by omega) (by omega)).mono ?_; rintro r w' ⟨rfl, rfl⟩; simp only [hL]))
        go_ret2
        exact ⟨ret_beg0 (unhide hd), rfl⟩
    · have fb : wI (by_ s (k + 1) : Int) 160 191 = false := wI_no (by omega)
      have hd := hide (dec_no1 s k hk (by rw [unhide Hw]; decide) (fun h => by
        unfold g1 at h; rw [unhide Hlo, unhide Hhi] at h; exact hwb h))
      clear hwb
      go_enter Tryz.func107, Tryz.ntmps107
      go_wp2_with (go_at_call 121; refine (within_any _ _ _ _).mono ?_; rintro r w' ⟨rfl, rfl⟩; simp only [fa0, fa1, fa2, fa3, fb])
      go_ret2
      exact ⟨ret_beg0 (unhide hd), rfl⟩
  · have hd := hide (dec_short s k hk (by rw [unhide Hw]; omega))
    have fb : wI 0 160 191 = false := wI_no (by omega)
    go_enter Tryz.func107, Tryz.ntmps107
    go_wp2_with (go_at_call 121; refine (within_any _ _ _ _).mono ?_; rintro r w' ⟨rfl, rfl⟩; simp only [fa0, fa1, fa2, fa3, fb])
    go_ret2
    exact ⟨ret_beg0 (unhide hd), rfl⟩

set_option maxHeartbeats 1000000 in
theorem begins_E1 (s : ByteArray) (k : Nat) (w : World) (hs : s.size ≤ 140737488355328) (hk : k < s.size) (hlo : 225 ≤ by_ s k) (hhi : by_ s k ≤ 236) :
    Calls Tryz.prog 107 #[.string s, .int .i64 k] w fun e w' => e = .returned (.tuple #[.int .i32 (bR s k), .int .i64 (bN s k)]) ∧ w = w' := by
  have hb := by_get s k hk
  have hl := by_lt s k
  have hw : hW (by_ s k) = 3 := by unfold hW; (repeat' split) <;> omega
  have Hw := hide hw
  clear hw
  have fa0 : wI (by_ s k : Int) 194 223 = false := wI_no (by omega)
  have fa1 : wI (by_ s k : Int) 225 236 = true := wI_yes (by omega) (by omega)
  have fa2 : wI (by_ s k : Int) 238 239 = false := wI_no (by omega)
  have fa3 : wI (by_ s k : Int) 241 243 = false := wI_no (by omega)
  have fe0 : ((by_ s k : Int) == 224) = false := by rw [beq_eq_false_iff_ne]; omega
  have fe1 : ((by_ s k : Int) == 237) = false := by rw [beq_eq_false_iff_ne]; omega
  have fe2 : ((by_ s k : Int) == 240) = false := by rw [beq_eq_false_iff_ne]; omega
  have fe3 : ((by_ s k : Int) == 244) = false := by rw [beq_eq_false_iff_ne]; omega
  have Hlo : Hid (hLo (by_ s k) = 128) := hide (by unfold hLo; (repeat' split) <;> omega)
  have Hhi : Hid (hHi (by_ s k) = 191) := hide (by unfold hHi; (repeat' split) <;> omega)
  by_cases hz : k + 1 < s.size
  · have hb1 := by_get s (k + 1) hz
    have hl1 := by_lt s (k + 1)
    cases hL : lowB s ((k : Int) + 1).toNat (2 : Int).toNat with
    | true =>
      have hL' := (low2_iff s k).1 hL
      have hd := hide (dec_three s k hk (unhide Hw) (by omega) (by unfold g1; rw [unhide Hlo, unhide Hhi]; omega) hL'.2.2.2)
      have hg2 := hL'.2.2.2
      unfold g2 at hg2
      have hb2 := by_get s (k + 2) (by omega)
      have hl2 := by_lt s (k + 2)
      obtain ⟨hz1, hz2, hz3, _⟩ := hL'
      go_enter Tryz.func107, Tryz.ntmps107
      go_wp2_with (first | (go_at_call 121; refine (within_any _ _ _ _).mono ?_; rintro r w' ⟨rfl, rfl⟩; simp only [fa0, fa1, fa2, fa3]) | (go_at_call 122; refine (low_int s _ _ _ hs (by omega) (by omega) (by omega) (by omega)).mono ?_; rintro r w' ⟨rfl, rfl⟩; simp only [hL]))
      go_ret2
      exact ⟨ret_beg (unhide hd) (ok_wide (unhide hd) (by decide)) (by omega) rfl, rfl⟩
    | false =>
      have hd := hide (dec_fail3 s k hk (by rw [unhide Hw]; decide) (fun h => by
        obtain ⟨h1, h2, h3⟩ := h
        unfold g1 at h2; rw [unhide Hlo, unhide Hhi] at h2
        rw [(low2_iff s k).2 ⟨h1, by omega, by omega, h3⟩] at hL
        cases hL))
      go_enter Tryz.func107, Tryz.ntmps107
      go_wp2_with (first | (go_at_call 121; refine (within_any _ _ _ _).mono ?_; rintro r w' ⟨rfl, rfl⟩; simp only [fa0, fa1, fa2, fa3]) | (go_at_call 122; refine (low_int s _ _ _ hs (by omega) (by omega) (by omega) (by omega)).mono ?_; rintro r w' ⟨rfl, rfl⟩; simp only [hL]))
      go_ret2
      exact ⟨ret_beg0 (unhide hd), rfl⟩
  · have hd := hide (dec_short s k hk (by rw [unhide Hw]; omega))
    have hL : lowB s ((k : Int) + 1).toNat (2 : Int).toNat = false := by
      rw [← Bool.not_eq_true, low2_iff]; omega
    go_enter Tryz.func107, Tryz.ntmps107
    go_wp2_with (first | (go_at_call 121; refine (within_any _ _ _ _).mono ?_; rintro r w' ⟨rfl, rfl⟩; simp only [fa0, fa1, fa2, fa3]) | (go_at_call 122; refine (low_int s _ _ _ hs (by omega) (by omega) (by omega) (by omega)).mono ?_; rintro r w' ⟨rfl, rfl⟩; simp only [hL]))
    go_ret2
    exact ⟨ret_beg0 (unhide hd), rfl⟩

end Go.Proofs.YtkndjbmlkfpfoaaGreatDoor

/-
  What the document's own begins answers, a class of first bytes at a time.
-/
set_option linter.unusedSimpArgs false
set_option linter.unusedVariables false
namespace Go.Proofs.YtkndjbmlkfpfoaaGreatDoor
open Go.RowKit Go.Lib

set_option maxHeartbeats 1000000 in
theorem begins_ED (s : ByteArray) (k : Nat) (w : World) (hs : s.size ≤ 140737488355328) (hk : k < s.size) (hlo : 237 ≤ by_ s k) (hhi : by_ s k ≤ 237) :
    Calls Tryz.prog 107 #[.string s, .int .i64 k] w fun e w' => e = .returned (.tuple #[.int .i32 (bR s k), .int .i64 (bN s k)]) ∧ w = w' := by
  have hb := by_get s k hk
  have hl := by_lt s k
  have hw : hW (by_ s k) = 3 := by unfold hW; (repeat' split) <;> omega
  have Hw := hide hw
  clear hw
  have fa0 : wI (by_ s k : Int) 194 223 = false := wI_no (by omega)
  have fa1 : wI (by_ s k : Int) 225 236 = false := wI_no (by omega)
  have fa2 : wI (by_ s k : Int) 238 239 = false := wI_no (by omega)
  have fa3 : wI (by_ s k : Int) 241 243 = false := wI_no (by omega)
  have fe0 : ((by_ s k : Int) == 224) = false := by rw [beq_eq_false_iff_ne]; omega
  have fe1 : ((by_ s k : Int) == 237) = true := by rw [beq_iff_eq]; omega
  have fe2 : ((by_ s k : Int) == 240) = false := by rw [beq_eq_false_iff_ne]; omega
  have fe3 : ((by_ s k : Int) == 244) = false := by rw [beq_eq_false_iff_ne]; omega
  have Hlo : Hid (hLo (by_ s k) = 128) := hide (by unfold hLo; (repeat' split) <;> omega)
  have Hhi : Hid (hHi (by_ s k) = 159) := hide (by unfold hHi; (repeat' split) <;> omega)
  by_cases hz : k + 1 < s.size
  · have hb1 := by_get s (k + 1) hz
    have hl1 := by_lt s (k + 1)
    by_cases hwb : 128 ≤ by_ s (k + 1) ∧ by_ s (k + 1) ≤ 159
    · obtain ⟨hw1, hw2⟩ := hwb
      have fb : wI (by_ s (k + 1) : Int) 128 159 = true := wI_yes (by omega) (by omega)
      cases hL : lowB s ((k : Int) + 1).toNat (2 : Int).toNat with
      | true =>
        have hL' := (low2_iff s k).1 hL
        have hd := hide (dec_three s k hk (unhide Hw) (by omega) (by unfold g1; rw [unhide Hlo, unhide Hhi]; omega) hL'.2.2.2)
        have hg2 := hL'.2.2.2
        unfold g2 at hg2
        have hb2 := by_get s (k + 2) (by omega)
        have hl2 := by_lt s (k + 2)
        obtain ⟨hz1, hz2, hz3, _⟩ := hL'
        go_enter Tryz.func107, Tryz.ntmps107
        go_wp2_with (first | (go_at_call 121; refine (within_any _ _ _ _).mono ?_; rintro r w' ⟨rfl, rfl⟩; simp only [fa0, fa1, fa2, fa3, fb]) | (go_at_call 122; refine (low_int s _ _ _ hs (by omega) (by omega) (by omega) (by omega)).mono ?_; rintro r w' ⟨rfl, rfl⟩; simp only [hL]))
        go_ret2
        exact ⟨ret_beg (unhide hd) (ok_wide (unhide hd) (by decide)) (by omega) rfl, rfl⟩
      | false =>
        have hd := hide (dec_fail3 s k hk (by rw [unhide Hw]; decide) (fun h => by
          obtain ⟨h1, h2, h3⟩ := h
          unfold g1 at h2; rw [unhide Hlo, unhide Hhi] at h2
          rw [(low2_iff s k).2 ⟨h1, by omega, by omega, h3⟩] at hL
          cases hL))
        go_enter Tryz.func107, Tryz.ntmps107
        go_wp2_with (first | (go_at_call 121; refine (within_any _ _ _ _).mono ?_; rintro r w' ⟨rfl, rfl⟩; simp only [fa0, fa1, fa2, fa3, fb]) | (go_at_call 122; refine (low_int s _ _ _ hs (by omega) (by omega) (by omega) (by omega)).mono ?_; rintro r w' ⟨rfl, rfl⟩; simp only [hL]))
        go_ret2
        exact ⟨ret_beg0 (unhide hd), rfl⟩
    · have fb : wI (by_ s (k + 1) : Int) 128 159 = false := wI_no (by omega)
      have hd := hide (dec_no1 s k hk (by rw [unhide Hw]; decide) (fun h => by
        unfold g1 at h; rw [unhide Hlo, unhide Hhi] at h; exact hwb h))
      clear hwb
      go_enter Tryz.func107, Tryz.ntmps107
      go_wp2_with (go_at_call 121; refine (within_any _ _ _ _).mono ?_; rintro r w' ⟨rfl, rfl⟩; simp only [fa0, fa1, fa2, fa3, fb])
      go_ret2
      exact ⟨ret_beg0 (unhide hd), rfl⟩
  · have hd := hide (dec_short s k hk (by rw [unhide Hw]; omega))
    have fb : wI 0 128 159 = false := wI_no (by omega)
    go_enter Tryz.func107, Tryz.ntmps107
    go_wp2_with (go_at_call 121; refine (within_any _ _ _ _).mono ?_; rintro r w' ⟨rfl, rfl⟩; simp only [fa0, fa1, fa2, fa3, fb])
    go_ret2
    exact ⟨ret_beg0 (unhide hd), rfl⟩

set_option maxHeartbeats 1000000 in
theorem begins_EE (s : ByteArray) (k : Nat) (w : World) (hs : s.size ≤ 140737488355328) (hk : k < s.size) (hlo : 238 ≤ by_ s k) (hhi : by_ s k ≤ 239) :
    Calls Tryz.prog 107 #[.string s, .int .i64 k] w fun e w' => e = .returned (.tuple #[.int .i32 (bR s k), .int .i64 (bN s k)]) ∧ w = w' := by
  have hb := by_get s k hk
  have hl := by_lt s k
  have hw : hW (by_ s k) = 3 := by unfold hW; (repeat' split) <;> omega
  have Hw := hide hw
  clear hw
  have fa0 : wI (by_ s k : Int) 194 223 = false := wI_no (by omega)
  have fa1 : wI (by_ s k : Int) 225 236 = false := wI_no (by omega)
  have fa2 : wI (by_ s k : Int) 238 239 = true := wI_yes (by omega) (by omega)
  have fa3 : wI (by_ s k : Int) 241 243 = false := wI_no (by omega)
  have fe0 : ((by_ s k : Int) == 224) = false := by rw [beq_eq_false_iff_ne]; omega
  have fe1 : ((by_ s k : Int) == 237) = false := by rw [beq_eq_false_iff_ne]; omega
  have fe2 : ((by_ s k : Int) == 240) = false := by rw [beq_eq_false_iff_ne]; omega
  have fe3 : ((by_ s k : Int) == 244) = false := by rw [beq_eq_false_iff_ne]; omega
  have Hlo : Hid (hLo (by_ s k) = 128) := hide (by unfold hLo; (repeat' split) <;> omega)
  have Hhi : Hid (hHi (by_ s k) = 191) := hide (by unfold hHi; (repeat' split) <;> omega)
  by_cases hz : k + 1 < s.size
  · have hb1 := by_get s (k + 1) hz
    have hl1 := by_lt s (k + 1)
    cases hL : lowB s ((k : Int) + 1).toNat (2 : Int).toNat with
    | true =>
      have hL' := (low2_iff s k).1 hL
      have hd := hide (dec_three s k hk (unhide Hw) (by omega) (by unfold g1; rw [unhide Hlo, unhide Hhi]; omega) hL'.2.2.2)
      have hg2 := hL'.2.2.2
      unfold g2 at hg2
      have hb2 := by_get s (k + 2) (by omega)
      have hl2 := by_lt s (k + 2)
      obtain ⟨hz1, hz2, hz3, _⟩ := hL'
      go_enter Tryz.func107, Tryz.ntmps107
      go_wp2_with (first | (go_at_call 121; refine (within_any _ _ _ _).mono ?_; rintro r w' ⟨rfl, rfl⟩; simp only [fa0, fa1, fa2, fa3]) | (go_at_call 122; refine (low_int s _ _ _ hs (by omega) (by omega) (by omega) (by omega)).mono ?_; rintro r w' ⟨rfl, rfl⟩; simp only [hL]))
      go_ret2
      exact ⟨ret_beg (unhide hd) (ok_wide (unhide hd) (by decide)) (by omega) rfl, rfl⟩
    | false =>
      have hd := hide (dec_fail3 s k hk (by rw [unhide Hw]; decide) (fun h => by
        obtain ⟨h1, h2, h3⟩ := h
        unfold g1 at h2; rw [unhide Hlo, unhide Hhi] at h2
        rw [(low2_iff s k).2 ⟨h1, by omega, by omega, h3⟩] at hL
        cases hL))
      go_enter Tryz.func107, Tryz.ntmps107
      go_wp2_with (first | (go_at_call 121; refine (within_any _ _ _ _).mono ?_; rintro r w' ⟨rfl, rfl⟩; simp only [fa0, fa1, fa2, fa3]) | (go_at_call 122; refine (low_int s _ _ _ hs (by omega) (by omega) (by omega) (by omega)).mono ?_; rintro r w' ⟨rfl, rfl⟩; simp only [hL]))
      go_ret2
      exact ⟨ret_beg0 (unhide hd), rfl⟩
  · have hd := hide (dec_short s k hk (by rw [unhide Hw]; omega))
    have hL : lowB s ((k : Int) + 1).toNat (2 : Int).toNat = false := by
      rw [← Bool.not_eq_true, low2_iff]; omega
    go_enter Tryz.func107, Tryz.ntmps107
    go_wp2_with (first | (go_at_call 121; refine (within_any _ _ _ _).mono ?_; rintro r w' ⟨rfl, rfl⟩; simp only [fa0, fa1, fa2, fa3]) | (go_at_call 122; refine (low_int s _ _ _ hs (by omega) (by omega) (by omega) (by omega)).mono ?_; rintro r w' ⟨rfl, rfl⟩; simp only [hL]))
    go_ret2
    exact ⟨ret_beg0 (unhide hd), rfl⟩

end Go.Proofs.YtkndjbmlkfpfoaaGreatDoor

/-
  What the document's own begins answers, a class of first bytes at a time.
-/
set_option linter.unusedSimpArgs false
set_option linter.unusedVariables false
namespace Go.Proofs.YtkndjbmlkfpfoaaGreatDoor
open Go.RowKit Go.Lib

set_option maxRecDepth 100000 in
set_option maxHeartbeats 2000000 in
theorem begins_F0 (s : ByteArray) (k : Nat) (w : World) (hs : s.size ≤ 140737488355328) (hk : k < s.size) (hlo : 240 ≤ by_ s k) (hhi : by_ s k ≤ 240) :
    Calls Tryz.prog 107 #[.string s, .int .i64 k] w fun e w' => e = .returned (.tuple #[.int .i32 (bR s k), .int .i64 (bN s k)]) ∧ ∃ n, w' = w.drewN n := by
  have hb := by_get s k hk
  have hl := by_lt s k
  have hw : hW (by_ s k) = 4 := by unfold hW; (repeat' split) <;> omega
  have Hw := hide hw
  clear hw
  have fa0 : wI (by_ s k : Int) 194 223 = false := wI_no (by omega)
  have fa1 : wI (by_ s k : Int) 225 236 = false := wI_no (by omega)
  have fa2 : wI (by_ s k : Int) 238 239 = false := wI_no (by omega)
  have fa3 : wI (by_ s k : Int) 241 243 = false := wI_no (by omega)
  have fe0 : ((by_ s k : Int) == 224) = false := by rw [beq_eq_false_iff_ne]; omega
  have fe1 : ((by_ s k : Int) == 237) = false := by rw [beq_eq_false_iff_ne]; omega
  have fe2 : ((by_ s k : Int) == 240) = true := by rw [beq_iff_eq]; omega
  have fe3 : ((by_ s k : Int) == 244) = false := by rw [beq_eq_false_iff_ne]; omega
  have Hlo : Hid (hLo (by_ s k) = 144) := hide (by unfold hLo; (repeat' split) <;> omega)
  have Hhi : Hid (hHi (by_ s k) = 191) := hide (by unfold hHi; (repeat' split) <;> omega)
  by_cases hz : k + 1 < s.size
  · have hb1 := by_get s (k + 1) hz
    have hl1 := by_lt s (k + 1)
    by_cases hwb : 144 ≤ by_ s (k + 1) ∧ by_ s (k + 1) ≤ 191
    · obtain ⟨hw1, hw2⟩ := hwb
      have fb : wI (by_ s (k + 1) : Int) 144 191 = true := wI_yes (by omega) (by omega)
      cases hL : lowB s ((k : Int) + 1).toNat (3 : Int).toNat with
      | true =>
        have hL' := (low3_iff s k).1 hL
        have hd := hide (dec_four s k hk (unhide Hw) (by omega) (by unfold g1; rw [unhide Hlo, unhide Hhi]; omega) hL'.2.2.2.1 hL'.2.2.2.2)
        have hg2 := hL'.2.2.2.1
        unfold g2 at hg2
        have hb2 := by_get s (k + 2) (by omega)
        have hl2 := by_lt s (k + 2)
        have hg3 := hL'.2.2.2.2
        unfold g3 at hg3
        have hb3 := by_get s (k + 3) (by omega)
        have hl3 := by_lt s (k + 3)
        obtain ⟨hz1, hz2, hz3, _⟩ := hL'
        have hi2 : (k : Int) + 2 < (s.size : Int) := by omega
        have hi3 : (k : Int) + 3 < (s.size : Int) := by omega
        have hj2 : (0 : Int) ≤ (k : Int) + 2 := by omega
        have hj3 : (0 : Int) ≤ (k : Int) + 3 := by omega
        go_enter Tryz.func107, Tryz.ntmps107
        go_wp2_with (first | (go_at_call 121; refine (within_any _ _ _ _).mono ?_; rintro r w' ⟨rfl, rfl⟩; simp only [fa0, fa1, fa2, fa3, fb]) | (go_at_call 122; refine (low_int s _ _ _ hs (by omega) (by omega) (by omega) (by omega)).mono ?_; rintro r w' ⟨rfl, rfl⟩; simp only [hL]))
        go_quiet (fail)
        go_wp2
        go_ret2
        exact ⟨ret_beg (unhide hd) (ok_wide (unhide hd) (by decide)) (by omega) rfl, _, rfl⟩
      | false =>
        have hd := hide (dec_fail4 s k hk (by rw [unhide Hw]) (fun h => by
          obtain ⟨h1, h2, h3, h4⟩ := h
          unfold g1 at h2; rw [unhide Hlo, unhide Hhi] at h2
          rw [(low3_iff s k).2 ⟨h1, by omega, by omega, h3, h4⟩] at hL
          cases hL))
        go_enter Tryz.func107, Tryz.ntmps107
        go_wp2_with (first | (go_at_call 121; refine (within_any _ _ _ _).mono ?_; rintro r w' ⟨rfl, rfl⟩; simp only [fa0, fa1, fa2, fa3, fb]) | (go_at_call 122; refine (low_int s _ _ _ hs (by omega) (by omega) (by omega) (by omega)).mono ?_; rintro r w' ⟨rfl, rfl⟩; simp only [hL]))
        go_ret2
        exact ⟨ret_beg0 (unhide hd), 0, rfl⟩
    · have fb : wI (by_ s (k + 1) : Int) 144 191 = false := wI_no (by omega)
      have hd := hide (dec_no1 s k hk (by rw [unhide Hw]; decide) (fun h => by
        unfold g1 at h; rw [unhide Hlo, unhide Hhi] at h; exact hwb h))
      clear hwb
      go_enter Tryz.func107, Tryz.ntmps107
      go_wp2_with (go_at_call 121; refine (within_any _ _ _ _).mono ?_; rintro r w' ⟨rfl, rfl⟩; simp only [fa0, fa1, fa2, fa3, fb])
      go_ret2
      exact ⟨ret_beg0 (unhide hd), 0, rfl⟩
  · have hd := hide (dec_short s k hk (by rw [unhide Hw]; omega))
    have fb : wI 0 144 191 = false := wI_no (by omega)
    go_enter Tryz.func107, Tryz.ntmps107
    go_wp2_with (go_at_call 121; refine (within_any _ _ _ _).mono ?_; rintro r w' ⟨rfl, rfl⟩; simp only [fa0, fa1, fa2, fa3, fb])
    go_ret2
    exact ⟨ret_beg0 (unhide hd), 0, rfl⟩

set_option maxRecDepth 100000 in
set_option maxHeartbeats 2000000 in
theorem begins_F1 (s : ByteArray) (k : Nat) (w : World) (hs : s.size ≤ 140737488355328) (hk : k < s.size) (hlo : 241 ≤ by_ s k) (hhi : by_ s k ≤ 243) :
    Calls Tryz.prog 107 #[.string s, .int .i64 k] w fun e w' => e = .returned (.tuple #[.int .i32 (bR s k), .int .i64 (bN s k)]) ∧ ∃ n, w' = w.drewN n := by
  have hb := by_get s k hk
  have hl := by_lt s k
  have hw : hW (by_ s k) = 4 := by unfold hW; (repeat' split) <;> omega
  have Hw := hide hw
  clear hw
  have fa0 : wI (by_ s k : Int) 194 223 = false := wI_no (by omega)
  have fa1 : wI (by_ s k : Int) 225 236 = false := wI_no (by omega)
  have fa2 : wI (by_ s k : Int) 238 239 = false := wI_no (by omega)
  have fa3 : wI (by_ s k : Int) 241 243 = true := wI_yes (by omega) (by omega)
  have fe0 : ((by_ s k : Int) == 224) = false := by rw [beq_eq_false_iff_ne]; omega
  have fe1 : ((by_ s k : Int) == 237) = false := by rw [beq_eq_false_iff_ne]; omega
  have fe2 : ((by_ s k : Int) == 240) = false := by rw [beq_eq_false_iff_ne]; omega
  have fe3 : ((by_ s k : Int) == 244) = false := by rw [beq_eq_false_iff_ne]; omega
  have Hlo : Hid (hLo (by_ s k) = 128) := hide (by unfold hLo; (repeat' split) <;> omega)
  have Hhi : Hid (hHi (by_ s k) = 191) := hide (by unfold hHi; (repeat' split) <;> omega)
  by_cases hz : k + 1 < s.size
  · have hb1 := by_get s (k + 1) hz
    have hl1 := by_lt s (k + 1)
    cases hL : lowB s ((k : Int) + 1).toNat (3 : Int).toNat with
    | true =>
      have hL' := (low3_iff s k).1 hL
      have hd := hide (dec_four s k hk (unhide Hw) (by omega) (by unfold g1; rw [unhide Hlo, unhide Hhi]; omega) hL'.2.2.2.1 hL'.2.2.2.2)
      have hg2 := hL'.2.2.2.1
      unfold g2 at hg2
      have hb2 := by_get s (k + 2) (by omega)
      have hl2 := by_lt s (k + 2)
      have hg3 := hL'.2.2.2.2
      unfold g3 at hg3
      have hb3 := by_get s (k + 3) (by omega)
      have hl3 := by_lt s (k + 3)
      obtain ⟨hz1, hz2, hz3, _⟩ := hL'
      have hi2 : (k : Int) + 2 < (s.size : Int) := by omega
      have hi3 : (k : Int) + 3 < (s.size : Int) := by omega
      have hj2 : (0 : Int) ≤ (k : Int) + 2 := by omega
      have hj3 : (0 : Int) ≤ (k : Int) + 3 := by omega
      go_enter Tryz.func107, Tryz.ntmps107
      go_wp2_with (first | (go_at_call 121; refine (within_any _ _ _ _).mono ?_; rintro r w' ⟨rfl, rfl⟩; simp only [fa0, fa1, fa2, fa3]) | (go_at_call 122; refine (low_int s _ _ _ hs (by omega) (by omega) (by omega) (by omega)).mono ?_; rintro r w' ⟨rfl, rfl⟩; simp only [hL]))
      go_quiet (fail)
      go_wp2
      go_ret2
      exact ⟨ret_beg (unhide hd) (ok_wide (unhide hd) (by decide)) (by omega) rfl, _, rfl⟩
    | false =>
      have hd := hide (dec_fail4 s k hk (by rw [unhide Hw]) (fun h => by
        obtain ⟨h1, h2, h3, h4⟩ := h
        unfold g1 at h2; rw [unhide Hlo, unhide Hhi] at h2
        rw [(low3_iff s k).2 ⟨h1, by omega, by omega, h3, h4⟩] at hL
        cases hL))
      go_enter Tryz.func107, Tryz.ntmps107
      go_wp2_with (first | (go_at_call 121; refine (within_any _ _ _ _).mono ?_; rintro r w' ⟨rfl, rfl⟩; simp only [fa0, fa1, fa2, fa3]) | (go_at_call 122; refine (low_int s _ _ _ hs (by omega) (by omega) (by omega) (by omega)).mono ?_; rintro r w' ⟨rfl, rfl⟩; simp only [hL]))
      go_ret2
      exact ⟨ret_beg0 (unhide hd), 0, rfl⟩
  · have hd := hide (dec_short s k hk (by rw [unhide Hw]; omega))
    have hL : lowB s ((k : Int) + 1).toNat (3 : Int).toNat = false := by
      rw [← Bool.not_eq_true, low3_iff]; omega
    go_enter Tryz.func107, Tryz.ntmps107
    go_wp2_with (first | (go_at_call 121; refine (within_any _ _ _ _).mono ?_; rintro r w' ⟨rfl, rfl⟩; simp only [fa0, fa1, fa2, fa3]) | (go_at_call 122; refine (low_int s _ _ _ hs (by omega) (by omega) (by omega) (by omega)).mono ?_; rintro r w' ⟨rfl, rfl⟩; simp only [hL]))
    go_ret2
    exact ⟨ret_beg0 (unhide hd), 0, rfl⟩

set_option maxRecDepth 100000 in
set_option maxHeartbeats 2000000 in
theorem begins_F4 (s : ByteArray) (k : Nat) (w : World) (hs : s.size ≤ 140737488355328) (hk : k < s.size) (hlo : 244 ≤ by_ s k) (hhi : by_ s k ≤ 244) :
    Calls Tryz.prog 107 #[.string s, .int .i64 k] w fun e w' => e = .returned (.tuple #[.int .i32 (bR s k), .int .i64 (bN s k)]) ∧ ∃ n, w' = w.drewN n := by
  have hb := by_get s k hk
  have hl := by_lt s k
  have hw : hW (by_ s k) = 4 := by unfold hW; (repeat' split) <;> omega
  have Hw := hide hw
  clear hw
  have fa0 : wI (by_ s k : Int) 194 223 = false := wI_no (by omega)
  have fa1 : wI (by_ s k : Int) 225 236 = false := wI_no (by omega)
  have fa2 : wI (by_ s k : Int) 238 239 = false := wI_no (by omega)
  have fa3 : wI (by_ s k : Int) 241 243 = false := wI_no (by omega)
  have fe0 : ((by_ s k : Int) == 224) = false := by rw [beq_eq_false_iff_ne]; omega
  have fe1 : ((by_ s k : Int) == 237) = false := by rw [beq_eq_false_iff_ne]; omega
  have fe2 : ((by_ s k : Int) == 240) = false := by rw [beq_eq_false_iff_ne]; omega
  have fe3 : ((by_ s k : Int) == 244) = true := by rw [beq_iff_eq]; omega
  have Hlo : Hid (hLo (by_ s k) = 128) := hide (by unfold hLo; (repeat' split) <;> omega)
  have Hhi : Hid (hHi (by_ s k) = 143) := hide (by unfold hHi; (repeat' split) <;> omega)
  by_cases hz : k + 1 < s.size
  · have hb1 := by_get s (k + 1) hz
    have hl1 := by_lt s (k + 1)
    by_cases hwb : 128 ≤ by_ s (k + 1) ∧ by_ s (k + 1) ≤ 143
    · obtain ⟨hw1, hw2⟩ := hwb
      have fb : wI (by_ s (k + 1) : Int) 128 143 = true := wI_yes (by omega) (by omega)
      cases hL : lowB s ((k : Int) + 1).toNat (3 : Int).toNat with
      | true =>
        have hL' := (low3_iff s k).1 hL
        have hd := hide (dec_four s k hk (unhide Hw) (by omega) (by unfold g1; rw [unhide Hlo, unhide Hhi]; omega) hL'.2.2.2.1 hL'.2.2.2.2)
        have hg2 := hL'.2.2.2.1
        unfold g2 at hg2
        have hb2 := by_get s (k + 2) (by omega)
        have hl2 := by_lt s (k + 2)
        have hg3 := hL'.2.2.2.2
        unfold g3 at hg3
        have hb3 := by_get s (k + 3) (by omega)
        have hl3 := by_lt s (k + 3)
        obtain ⟨hz1, hz2, hz3, _⟩ := hL'
        have hi2 : (k : Int) + 2 < (s.size : Int) := by omega
        have hi3 : (k : Int) + 3 < (s.size : Int) := by omega
        have hj2 : (0 : Int) ≤ (k : Int) + 2 := by omega
        have hj3 : (0 : Int) ≤ (k : Int) + 3 := by omega
        go_enter Tryz.func107, Tryz.ntmps107
        go_wp2_with (first | (go_at_call 121; refine (within_any _ _ _ _).mono ?_; rintro r w' ⟨rfl, rfl⟩; simp only [fa0, fa1, fa2, fa3, fb]) | (go_at_call 122; refine (low_int s _ _ _ hs (by omega) (by omega) (by omega) (by omega)).mono ?_; rintro r w' ⟨rfl, rfl⟩; simp only [hL]))
        go_quiet (fail)
        go_wp2
        go_ret2
        exact ⟨ret_beg (unhide hd) (ok_wide (unhide hd) (by decide)) (by omega) rfl, _, rfl⟩
      | false =>
        have hd := hide (dec_fail4 s k hk (by rw [unhide Hw]) (fun h => by
          obtain ⟨h1, h2, h3, h4⟩ := h
          unfold g1 at h2; rw [unhide Hlo, unhide Hhi] at h2
          rw [(low3_iff s k).2 ⟨h1, by omega, by omega, h3, h4⟩] at hL
          cases hL))
        go_enter Tryz.func107, Tryz.ntmps107
        go_wp2_with (first | (go_at_call 121; refine (within_any _ _ _ _).mono ?_; rintro r w' ⟨rfl, rfl⟩; simp only [fa0, fa1, fa2, fa3, fb]) | (go_at_call 122; refine (low_int s _ _ _ hs (by omega) (by omega) (by omega) (by omega)).mono ?_; rintro r w' ⟨rfl, rfl⟩; simp only [hL]))
        go_ret2
        exact ⟨ret_beg0 (unhide hd), 0, rfl⟩
    · have fb : wI (by_ s (k + 1) : Int) 128 143 = false := wI_no (by omega)
      have hd := hide (dec_no1 s k hk (by rw [unhide Hw]; decide) (fun h => by
        unfold g1 at h; rw [unhide Hlo, unhide Hhi] at h; exact hwb h))
      clear hwb
      go_enter Tryz.func107, Tryz.ntmps107
      go_wp2_with (go_at_call 121; refine (within_any _ _ _ _).mono ?_; rintro r w' ⟨rfl, rfl⟩; simp only [fa0, fa1, fa2, fa3, fb])
      go_ret2
      exact ⟨ret_beg0 (unhide hd), 0, rfl⟩
  · have hd := hide (dec_short s k hk (by rw [unhide Hw]; omega))
    have fb : wI 0 128 143 = false := wI_no (by omega)
    go_enter Tryz.func107, Tryz.ntmps107
    go_wp2_with (go_at_call 121; refine (within_any _ _ _ _).mono ?_; rintro r w' ⟨rfl, rfl⟩; simp only [fa0, fa1, fa2, fa3, fb])
    go_ret2
    exact ⟨ret_beg0 (unhide hd), 0, rfl⟩

end Go.Proofs.YtkndjbmlkfpfoaaGreatDoor
