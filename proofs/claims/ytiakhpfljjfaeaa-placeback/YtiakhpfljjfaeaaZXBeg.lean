/-
  What the document's own begins answers, a class of first bytes at a time.
-/
import Derived.Test.YtiakhpfljjfaeaaZLow
import Derived.Deep.QuietTactic
import Derived.BigQuiet

set_option linter.unusedSimpArgs false
set_option linter.unusedVariables false
namespace Go.Proofs.Ytiakhpfljjfaeaa
open Go.RowKit Go.Lib

set_option maxHeartbeats 1000000 in
theorem begins_00 (s : ByteArray) (k : Nat) (w : World) (hs : s.size ≤ 140737488355328) (hk : k < s.size) (hhi : by_ s k ≤ 127) :
    Calls Try.prog 63 #[.string s, .int .i64 k] w fun e w' => e = .returned (.tuple #[.int .i32 (bR s k), .int .i64 (bN s k)]) ∧ w = w' := by
  have hb := by_get s k hk
  have hl := by_lt s k
  have hd := hide (dec_one s k hhi)
  by_cases hz : k + 1 < s.size
  · have hb1 := by_get s (k + 1) hz
    have hl1 := by_lt s (k + 1)
    go_enter Try.func63, Try.ntmps63
    go_wp2
    go_ret2
    exact ⟨ret_beg (unhide hd) (ok_one (unhide hd) (by omega)) rfl rfl, rfl⟩
  · go_enter Try.func63, Try.ntmps63
    go_wp2
    go_ret2
    exact ⟨ret_beg (unhide hd) (ok_one (unhide hd) (by omega)) rfl rfl, rfl⟩

set_option maxHeartbeats 1000000 in
theorem begins_A1 (s : ByteArray) (k : Nat) (w : World) (hs : s.size ≤ 140737488355328) (hk : k < s.size) (hlo : 128 ≤ by_ s k) (hhi : by_ s k ≤ 193) :
    Calls Try.prog 63 #[.string s, .int .i64 k] w fun e w' => e = .returned (.tuple #[.int .i32 (bR s k), .int .i64 (bN s k)]) ∧ w = w' := by
  have hb := by_get s k hk
  have hl := by_lt s k
  have hw : hW (by_ s k) = 0 := by unfold hW; (repeat' split) <;> omega
  have Hw := hide hw
  clear hw
  have fa0 : wI (by_ s k : Int) 194 223 = false := wI_no (by omega)
  have fa1 : wI (by_ s k : Int) 225 236 = false := wI_no (by omega)
  have fa2 : wI (by_ s k : Int) 238 239 = false := wI_no (by omega)
  have fa3 : wI (by_ s k : Int) 241 243 = false := wI_no (by omega)
  have fe0 : ((by_ s k : Int) == 224) = false := by rw [beq_eq_false_iff_ne]; omega
  have fe1 : ((by_ s k : Int) == 237) = false := by rw [beq_eq_false_iff_ne]; omega
  have fe2 : ((by_ s k : Int) == 240) = false := by rw [beq_eq_false_iff_ne]; omega
  have fe3 : ((by_ s k : Int) == 244) = false := by rw [beq_eq_false_iff_ne]; omega
  have hd := hide (dec_bad s k (unhide Hw))
  by_cases hz : k + 1 < s.size
  · have hb1 := by_get s (k + 1) hz
    have hl1 := by_lt s (k + 1)
    go_enter Try.func63, Try.ntmps63
    go_wp2_with (go_at_call 69; refine (within_any _ _ _ _).mono ?_; rintro r w' ⟨rfl, rfl⟩; simp only [fa0, fa1, fa2, fa3])
    go_ret2
    exact ⟨ret_beg0 (unhide hd), rfl⟩
  · skip
    go_enter Try.func63, Try.ntmps63
    go_wp2_with (go_at_call 69; refine (within_any _ _ _ _).mono ?_; rintro r w' ⟨rfl, rfl⟩; simp only [fa0, fa1, fa2, fa3])
    go_ret2
    exact ⟨ret_beg0 (unhide hd), rfl⟩

set_option maxHeartbeats 1000000 in
theorem begins_C2 (s : ByteArray) (k : Nat) (w : World) (hs : s.size ≤ 140737488355328) (hk : k < s.size) (hlo : 194 ≤ by_ s k) (hhi : by_ s k ≤ 223) :
    Calls Try.prog 63 #[.string s, .int .i64 k] w fun e w' => e = .returned (.tuple #[.int .i32 (bR s k), .int .i64 (bN s k)]) ∧ w = w' := by
  have hb := by_get s k hk
  have hl := by_lt s k
  have hw : hW (by_ s k) = 2 := by unfold hW; (repeat' split) <;> omega
  have Hw := hide hw
  clear hw
  have fa0 : wI (by_ s k : Int) 194 223 = true := wI_yes (by omega) (by omega)
  have fa1 : wI (by_ s k : Int) 225 236 = false := wI_no (by omega)
  have fa2 : wI (by_ s k : Int) 238 239 = false := wI_no (by omega)
  have fa3 : wI (by_ s k : Int) 241 243 = false := wI_no (by omega)
  have fe0 : ((by_ s k : Int) == 224) = false := by rw [beq_eq_false_iff_ne]; omega
  have fe1 : ((by_ s k : Int) == 237) = false := by rw [beq_eq_false_iff_ne]; omega
  have fe2 : ((by_ s k : Int) == 240) = false := by rw [beq_eq_false_iff_ne]; omega
  have fe3 : ((by_ s k : Int) == 244) = false := by rw [beq_eq_false_iff_ne]; omega
  have Hlo : Hid (hLo (by_ s k) = 128) := hide (by unfold hLo; (repeat' split) <;> omega)
  have Hhi : Hid (hHi (by_ s k) = 191) := hide (by unfold hHi; (repeat' split) <;> omega)
  by_cases hz : k + 1 < s.size
  · have hb1 := by_get s (k + 1) hz
    have hl1 := by_lt s (k + 1)
    cases hL : lowB s ((k : Int) + 1).toNat (1 : Int).toNat with
    | true =>
      have hL' := (low1_iff s k).1 hL
      have hd := hide (dec_two s k hk (unhide Hw) (by omega) (by unfold g1; rw [unhide Hlo, unhide Hhi]; omega))
      obtain ⟨hz1, hz2, hz3⟩ := hL'
      go_enter Try.func63, Try.ntmps63
      go_wp2_with (first | (go_at_call 69; refine (within_any _ _ _ _).mono ?_; rintro r w' ⟨rfl, rfl⟩; simp only [fa0, fa1, fa2, fa3]) | (go_at_call 70; refine (low_int s _ _ _ hs (by omega) (by omega) (by omega) (by omega)).mono ?_; rintro r w' ⟨rfl, rfl⟩; simp only [hL]))
      go_ret2
      exact ⟨ret_beg (unhide hd) (ok_wide (unhide hd) (by decide)) (by omega) rfl, rfl⟩
    | false =>
      have hd := hide (dec_fail2 s k hk (by rw [unhide Hw]; decide) (fun h => by
        obtain ⟨h1, h2⟩ := h
        unfold g1 at h2; rw [unhide Hlo, unhide Hhi] at h2
        rw [(low1_iff s k).2 ⟨h1, by omega, by omega⟩] at hL
        cases hL))
      go_enter Try.func63, Try.ntmps63
      go_wp2_with (first | (go_at_call 69; refine (within_any _ _ _ _).mono ?_; rintro r w' ⟨rfl, rfl⟩; simp only [fa0, fa1, fa2, fa3]) | (go_at_call 70; refine (low_int s _ _ _ hs (by omega) (by omega) (by omega) (by omega)).mono ?_; rintro r w' ⟨rfl, rfl⟩; simp only [hL]))
      go_ret2
      exact ⟨ret_beg0 (unhide hd), rfl⟩
  · have hd := hide (dec_short s k hk (by rw [unhide Hw]; omega))
    have hL : lowB s ((k : Int) + 1).toNat (1 : Int).toNat = false := by
      rw [← Bool.not_eq_true, low1_iff]; omega
    go_enter Try.func63, Try.ntmps63
    go_wp2_with (first | (go_at_call 69; refine (within_any _ _ _ _).mono ?_; rintro r w' ⟨rfl, rfl⟩; simp only [fa0, fa1, fa2, fa3]) | (go_at_call 70; refine (low_int s _ _ _ hs (by omega) (by omega) (by omega) (by omega)).mono ?_; rintro r w' ⟨rfl, rfl⟩; simp only [hL]))
    go_ret2
    exact ⟨ret_beg0 (unhide hd), rfl⟩

set_option maxHeartbeats 1000000 in
theorem begins_F5 (s : ByteArray) (k : Nat) (w : World) (hs : s.size ≤ 140737488355328) (hk : k < s.size) (hlo : 245 ≤ by_ s k) (hhi : by_ s k ≤ 255) :
    Calls Try.prog 63 #[.string s, .int .i64 k] w fun e w' => e = .returned (.tuple #[.int .i32 (bR s k), .int .i64 (bN s k)]) ∧ w = w' := by
  have hb := by_get s k hk
  have hl := by_lt s k
  have hw : hW (by_ s k) = 0 := by unfold hW; (repeat' split) <;> omega
  have Hw := hide hw
  clear hw
  have fa0 : wI (by_ s k : Int) 194 223 = false := wI_no (by omega)
  have fa1 : wI (by_ s k : Int) 225 236 = false := wI_no (by omega)
  have fa2 : wI (by_ s k : Int) 238 239 = false := wI_no (by omega)
  have fa3 : wI (by_ s k : Int) 241 243 = false := wI_no (by omega)
  have fe0 : ((by_ s k : Int) == 224) = false := by rw [beq_eq_false_iff_ne]; omega
  have fe1 : ((by_ s k : Int) == 237) = false := by rw [beq_eq_false_iff_ne]; omega
  have fe2 : ((by_ s k : Int) == 240) = false := by rw [beq_eq_false_iff_ne]; omega
  have fe3 : ((by_ s k : Int) == 244) = false := by rw [beq_eq_false_iff_ne]; omega
  have hd := hide (dec_bad s k (unhide Hw))
  by_cases hz : k + 1 < s.size
  · have hb1 := by_get s (k + 1) hz
    have hl1 := by_lt s (k + 1)
    go_enter Try.func63, Try.ntmps63
    go_wp2_with (go_at_call 69; refine (within_any _ _ _ _).mono ?_; rintro r w' ⟨rfl, rfl⟩; simp only [fa0, fa1, fa2, fa3])
    go_ret2
    exact ⟨ret_beg0 (unhide hd), rfl⟩
  · skip
    go_enter Try.func63, Try.ntmps63
    go_wp2_with (go_at_call 69; refine (within_any _ _ _ _).mono ?_; rintro r w' ⟨rfl, rfl⟩; simp only [fa0, fa1, fa2, fa3])
    go_ret2
    exact ⟨ret_beg0 (unhide hd), rfl⟩

end Go.Proofs.Ytiakhpfljjfaeaa

/-
  What the document's own begins answers, a class of first bytes at a time.
-/
set_option linter.unusedSimpArgs false
set_option linter.unusedVariables false
namespace Go.Proofs.Ytiakhpfljjfaeaa
open Go.RowKit Go.Lib

set_option maxHeartbeats 1000000 in
theorem begins_E0 (s : ByteArray) (k : Nat) (w : World) (hs : s.size ≤ 140737488355328) (hk : k < s.size) (hlo : 224 ≤ by_ s k) (hhi : by_ s k ≤ 224) :
    Calls Try.prog 63 #[.string s, .int .i64 k] w fun e w' => e = .returned (.tuple #[.int .i32 (bR s k), .int .i64 (bN s k)]) ∧ w = w' := by
  have hb := by_get s k hk
  have hl := by_lt s k
  have hw : hW (by_ s k) = 3 := by unfold hW; (repeat' split) <;> omega
  have Hw := hide hw
  clear hw
  have fa0 : wI (by_ s k : Int) 194 223 = false := wI_no (by omega)
  have fa1 : wI (by_ s k : Int) 225 236 = false := wI_no (by omega)
  have fa2 : wI (by_ s k : Int) 238 239 = false := wI_no (by omega)
  have fa3 : wI (by_ s k : Int) 241 243 = false := wI_no (by omega)
  have fe0 : ((by_ s k : Int) == 224) = true := by rw [beq_iff_eq]; omega
  have fe1 : ((by_ s k : Int) == 237) = false := by rw [beq_eq_false_iff_ne]; omega
  have fe2 : ((by_ s k : Int) == 240) = false := by rw [beq_eq_false_iff_ne]; omega
  have fe3 : ((by_ s k : Int) == 244) = false := by rw [beq_eq_false_iff_ne]; omega
  have Hlo : Hid (hLo (by_ s k) = 160) := hide (by unfold hLo; (repeat' split) <;> omega)
  have Hhi : Hid (hHi (by_ s k) = 191) := hide (by unfold hHi; (repeat' split) <;> omega)
  by_cases hz : k + 1 < s.size
  · have hb1 := by_get s (k + 1) hz
    have hl1 := by_lt s (k + 1)
    by_cases hwb : 160 ≤ by_ s (k + 1) ∧ by_ s (k + 1) ≤ 191
    · obtain ⟨hw1, hw2⟩ := hwb
      have fb : wI (by_ s (k + 1) : Int) 160 191 = true := wI_yes (by omega) (by omega)
      cases hL : lowB s ((k : Int) + 1).toNat (2 : Int).toNat with
      | true =>
        have hL' := (low2_iff s k).1 hL
        have hd := hide (dec_three s k hk (unhide Hw) (by omega) (by unfold g1; rw [unhide Hlo, unhide Hhi]; omega) hL'.2.2.2)
        have hg2 := hL'.2.2.2
        unfold g2 at hg2
        have hb2 := by_get s (k + 2) (by omega)
        have hl2 := by_lt s (k + 2)
        obtain ⟨hz1, hz2, hz3, _⟩ := hL'
        go_enter Try.func63, Try.ntmps63
        go_wp2_with (first | (go_at_call 69; refine (within_any _ _ _ _).mono ?_; rintro r w' ⟨rfl, rfl⟩; simp only [fa0, fa1, fa2, fa3, fb]) | (go_at_call 70; refine (low_int s _ _ _ hs (by omega) (by omega) (by omega) (by omega)).mono ?_; rintro r w' ⟨rfl, rfl⟩; simp only [hL]))
        go_ret2
        exact ⟨ret_beg (unhide hd) (ok_wide (unhide hd) (by decide)) (by omega) rfl, rfl⟩
      | false =>
        have hd := hide (dec_fail3 s k hk (by rw [unhide Hw]; decide) (fun h => by
          obtain ⟨h1, h2, h3⟩ := h
          unfold g1 at h2; rw [unhide Hlo, unhide Hhi] at h2
          rw [(low2_iff s k).2 ⟨h1, by omega, by omega, h3⟩] at hL
          cases hL))
        go_enter Try.func63, Try.ntmps63
        go_wp2_with (first | (go_at_call 69; refine (within_any _ _ _ _).mono ?_; rintro r w' ⟨rfl, rfl⟩; simp only [fa0, fa1, fa2, fa3, fb]) | (go_at_call 70; refine (low_int s _ _ _ hs (by omega) (by omega) (by omega) (by omega)).mono ?_; rintro r w' ⟨rfl, rfl⟩; simp only [hL]))
        go_ret2
        exact ⟨ret_beg0 (unhide hd), rfl⟩
    · have fb : wI (by_ s (k + 1) : Int) 160 191 = false := wI_no (by omega)
      have hd := hide (dec_no1 s k hk (by rw [unhide Hw]; decide) (fun h => by
        unfold g1 at h; rw [unhide Hlo, unhide Hhi] at h; exact hwb h))
      clear hwb
      go_enter Try.func63, Try.ntmps63
      go_wp2_with (go_at_call 69; refine (within_any _ _ _ _).mono ?_; rintro r w' ⟨rfl, rfl⟩; simp only [fa0, fa1, fa2, fa3, fb])
      go_ret2
      exact ⟨ret_beg0 (unhide hd), rfl⟩
  · have hd := hide (dec_short s k hk (by rw [unhide Hw]; omega))
    have fb : wI 0 160 191 = false := wI_no (by omega)
    go_enter Try.func63, Try.ntmps63
    go_wp2_with (go_at_call 69; refine (within_any _ _ _ _).mono ?_; rintro r w' ⟨rfl, rfl⟩; simp only [fa0, fa1, fa2, fa3, fb])
    go_ret2
    exact ⟨ret_beg0 (unhide hd), rfl⟩

set_option maxHeartbeats 1000000 in
theorem begins_E1 (s : ByteArray) (k : Nat) (w : World) (hs : s.size ≤ 140737488355328) (hk : k < s.size) (hlo : 225 ≤ by_ s k) (hhi : by_ s k ≤ 236) :
    Calls Try.prog 63 #[.string s, .int .i64 k] w fun e w' => e = .returned (.tuple #[.int .i32 (bR s k), .int .i64 (bN s k)]) ∧ w = w' := by
  have hb := by_get s k hk
  have hl := by_lt s k
  have hw : hW (by_ s k) = 3 := by unfold hW; (repeat' split) <;> omega
  have Hw := hide hw
  clear hw
  have fa0 : wI (by_ s k : Int) 194 223 = false := wI_no (by omega)
  have fa1 : wI (by_ s k : Int) 225 236 = true := wI_yes (by omega) (by omega)
  have fa2 : wI (by_ s k : Int) 238 239 = false := wI_no (by omega)
  have fa3 : wI (by_ s k : Int) 241 243 = false := wI_no (by omega)
  have fe0 : ((by_ s k : Int) == 224) = false := by rw [beq_eq_false_iff_ne]; omega
  have fe1 : ((by_ s k : Int) == 237) = false := by rw [beq_eq_false_iff_ne]; omega
  have fe2 : ((by_ s k : Int) == 240) = false := by rw [beq_eq_false_iff_ne]; omega
  have fe3 : ((by_ s k : Int) == 244) = false := by rw [beq_eq_false_iff_ne]; omega
  have Hlo : Hid (hLo (by_ s k) = 128) := hide (by unfold hLo; (repeat' split) <;> omega)
  have Hhi : Hid (hHi (by_ s k) = 191) := hide (by unfold hHi; (repeat' split) <;> omega)
  by_cases hz : k + 1 < s.size
  · have hb1 := by_get s (k + 1) hz
    have hl1 := by_lt s (k + 1)
    cases hL : lowB s ((k : Int) + 1).toNat (2 : Int).toNat with
    | true =>
      have hL' := (low2_iff s k).1 hL
      have hd := hide (dec_three s k hk (unhide Hw) (by omega) (by unfold g1; rw [unhide Hlo, unhide Hhi]; omega) hL'.2.2.2)
      have hg2 := hL'.2.2.2
      unfold g2 at hg2
      have hb2 := by_get s (k + 2) (by omega)
      have hl2 := by_lt s (k + 2)
      obtain ⟨hz1, hz2, hz3, _⟩ := hL'
      go_enter Try.func63, Try.ntmps63
      go_wp2_with (first | (go_at_call 69; refine (within_any _ _ _ _).mono ?_; rintro r w' ⟨rfl, rfl⟩; simp only [fa0, fa1, fa2, fa3]) | (go_at_call 70; refine (low_int s _ _ _ hs (by omega) (by omega) (by omega) (by omega)).mono ?_; rintro r w' ⟨rfl, rfl⟩; simp only [hL]))
      go_ret2
      exact ⟨ret_beg (unhide hd) (ok_wide (unhide hd) (by decide)) (by omega) rfl, rfl⟩
    | false =>
      have hd := hide (dec_fail3 s k hk (by rw [unhide Hw]; decide) (fun h => by
        obtain ⟨h1, h2, h3⟩ := h
        unfold g1 at h2; rw [unhide Hlo, unhide Hhi] at h2
        rw [(low2_iff s k).2 ⟨h1, by omega, by omega, h3⟩] at hL
        cases hL))
      go_enter Try.func63, Try.ntmps63
      go_wp2_with (first | (go_at_call 69; refine (within_any _ _ _ _).mono ?_; rintro r w' ⟨rfl, rfl⟩; simp only [fa0, fa1, fa2, fa3]) | (go_at_call 70; refine (low_int s _ _ _ hs (by omega) (by omega) (by omega) (by omega)).mono ?_; rintro r w' ⟨rfl, rfl⟩; simp only [hL]))
      go_ret2
      exact ⟨ret_beg0 (unhide hd), rfl⟩
  · have hd := hide (dec_short s k hk (by rw [unhide Hw]; omega))
    have hL : lowB s ((k : Int) + 1).toNat (2 : Int).toNat = false := by
      rw [← Bool.not_eq_true, low2_iff]; omega
    go_enter Try.func63, Try.ntmps63
    go_wp2_with (first | (go_at_call 69; refine (within_any _ _ _ _).mono ?_; rintro r w' ⟨rfl, rfl⟩; simp only [fa0, fa1, fa2, fa3]) | (go_at_call 70; refine (low_int s _ _ _ hs (by omega) (by omega) (by omega) (by omega)).mono ?_; rintro r w' ⟨rfl, rfl⟩; simp only [hL]))
    go_ret2
    exact ⟨ret_beg0 (unhide hd), rfl⟩

end Go.Proofs.Ytiakhpfljjfaeaa

/-
  What the document's own begins answers, a class of first bytes at a time.
-/
set_option linter.unusedSimpArgs false
set_option linter.unusedVariables false
namespace Go.Proofs.Ytiakhpfljjfaeaa
open Go.RowKit Go.Lib

set_option maxHeartbeats 1000000 in
theorem begins_ED (s : ByteArray) (k : Nat) (w : World) (hs : s.size ≤ 140737488355328) (hk : k < s.size) (hlo : 237 ≤ by_ s k) (hhi : by_ s k ≤ 237) :
    Calls Try.prog 63 #[.string s, .int .i64 k] w fun e w' => e = .returned (.tuple #[.int .i32 (bR s k), .int .i64 (bN s k)]) ∧ w = w' := by
  have hb := by_get s k hk
  have hl := by_lt s k
  have hw : hW (by_ s k) = 3 := by unfold hW; (repeat' split) <;> omega
  have Hw := hide hw
  clear hw
  have fa0 : wI (by_ s k : Int) 194 223 = false := wI_no (by omega)
  have fa1 : wI (by_ s k : Int) 225 236 = false := wI_no (by omega)
  have fa2 : wI (by_ s k : Int) 238 239 = false := wI_no (by omega)
  have fa3 : wI (by_ s k : Int) 241 243 = false := wI_no (by omega)
  have fe0 : ((by_ s k : Int) == 224) = false := by rw [beq_eq_false_iff_ne]; omega
  have fe1 : ((by_ s k : Int) == 237) = true := by rw [beq_iff_eq]; omega
  have fe2 : ((by_ s k : Int) == 240) = false := by rw [beq_eq_false_iff_ne]; omega
  have fe3 : ((by_ s k : Int) == 244) = false := by rw [beq_eq_false_iff_ne]; omega
  have Hlo : Hid (hLo (by_ s k) = 128) := hide (by unfold hLo; (repeat' split) <;> omega)
  have Hhi : Hid (hHi (by_ s k) = 159) := hide (by unfold hHi; (repeat' split) <;> omega)
  by_cases hz : k + 1 < s.size
  · have hb1 := by_get s (k + 1) hz
    have hl1 := by_lt s (k + 1)
    by_cases hwb : 128 ≤ by_ s (k + 1) ∧ by_ s (k + 1) ≤ 159
    · obtain ⟨hw1, hw2⟩ := hwb
      have fb : wI (by_ s (k + 1) : Int) 128 159 = true := wI_yes (by omega) (by omega)
      cases hL : lowB s ((k : Int) + 1).toNat (2 : Int).toNat with
      | true =>
        have hL' := (low2_iff s k).1 hL
        have hd := hide (dec_three s k hk (unhide Hw) (by omega) (by unfold g1; rw [unhide Hlo, unhide Hhi]; omega) hL'.2.2.2)
        have hg2 := hL'.2.2.2
        unfold g2 at hg2
        have hb2 := by_get s (k + 2) (by omega)
        have hl2 := by_lt s (k + 2)
        obtain ⟨hz1, hz2, hz3, _⟩ := hL'
        go_enter Try.func63, Try.ntmps63
        go_wp2_with (first | (go_at_call 69; refine (within_any _ _ _ _).mono ?_; rintro r w' ⟨rfl, rfl⟩; simp only [fa0, fa1, fa2, fa3, fb]) | (go_at_call 70; refine (low_int s _ _ _ hs (by omega) (by omega) (by omega) (by omega)).mono ?_; rintro r w' ⟨rfl, rfl⟩; simp only [hL]))
        go_ret2
        exact ⟨ret_beg (unhide hd) (ok_wide (unhide hd) (by decide)) (by omega) rfl, rfl⟩
      | false =>
        have hd := hide (dec_fail3 s k hk (by rw [unhide Hw]; decide) (fun h => by
          obtain ⟨h1, h2, h3⟩ := h
          unfold g1 at h2; rw [unhide Hlo, unhide Hhi] at h2
          rw [(low2_iff s k).2 ⟨h1, by omega, by omega, h3⟩] at hL
          cases hL))
        go_enter Try.func63, Try.ntmps63
        go_wp2_with (first | (go_at_call 69; refine (within_any _ _ _ _).mono ?_; rintro r w' ⟨rfl, rfl⟩; simp only [fa0, fa1, fa2, fa3, fb]) | (go_at_call 70; refine (low_int s _ _ _ hs (by omega) (by omega) (by omega) (by omega)).mono ?_; rintro r w' ⟨rfl, rfl⟩; simp only [hL]))
        go_ret2
        exact ⟨ret_beg0 (unhide hd), rfl⟩
    · have fb : wI (by_ s (k + 1) : Int) 128 159 = false := wI_no (by omega)
      have hd := hide (dec_no1 s k hk (by rw [unhide Hw]; decide) (fun h => by
        unfold g1 at h; rw [unhide Hlo, unhide Hhi] at h; exact hwb h))
      clear hwb
      go_enter Try.func63, Try.ntmps63
      go_wp2_with (go_at_call 69; refine (within_any _ _ _ _).mono ?_; rintro r w' ⟨rfl, rfl⟩; simp only [fa0, fa1, fa2, fa3, fb])
      go_ret2
      exact ⟨ret_beg0 (unhide hd), rfl⟩
  · have hd := hide (dec_short s k hk (by rw [unhide Hw]; omega))
    have fb : wI 0 128 159 = false := wI_no (by omega)
    go_enter Try.func63, Try.ntmps63
    go_wp2_with (go_at_call 69; refine (within_any _ _ _ _).mono ?_; rintro r w' ⟨rfl, rfl⟩; simp only [fa0, fa1, fa2, fa3, fb])
    go_ret2
    exact ⟨ret_beg0 (unhide hd), rfl⟩

set_option maxHeartbeats 1000000 in
theorem begins_EE (s : ByteArray) (k : Nat) (w : World) (hs : s.size ≤ 140737488355328) (hk : k < s.size) (hlo : 238 ≤ by_ s k) (hhi : by_ s k ≤ 239) :
    Calls Try.prog 63 #[.string s, .int .i64 k] w fun e w' => e = .returned (.tuple #[.int .i32 (bR s k), .int .i64 (bN s k)]) ∧ w = w' := by
  have hb := by_get s k hk
  have hl := by_lt s k
  have hw : hW (by_ s k) = 3 := by unfold hW; (repeat' split) <;> omega
  have Hw := hide hw
  clear hw
  have fa0 : wI (by_ s k : Int) 194 223 = false := wI_no (by omega)
  have fa1 : wI (by_ s k : Int) 225 236 = false := wI_no (by omega)
  have fa2 : wI (by_ s k : Int) 238 239 = true := wI_yes (by omega) (by omega)
  have fa3 : wI (by_ s k : Int) 241 243 = false := wI_no (by omega)
  have fe0 : ((by_ s k : Int) == 224) = false := by rw [beq_eq_false_iff_ne]; omega
  have fe1 : ((by_ s k : Int) == 237) = false := by rw [beq_eq_false_iff_ne]; omega
  have fe2 : ((by_ s k : Int) == 240) = false := by rw [beq_eq_false_iff_ne]; omega
  have fe3 : ((by_ s k : Int) == 244) = false := by rw [beq_eq_false_iff_ne]; omega
  have Hlo : Hid (hLo (by_ s k) = 128) := hide (by unfold hLo; (repeat' split) <;> omega)
  have Hhi : Hid (hHi (by_ s k) = 191) := hide (by unfold hHi; (repeat' split) <;> omega)
  by_cases hz : k + 1 < s.size
  · have hb1 := by_get s (k + 1) hz
    have hl1 := by_lt s (k + 1)
    cases hL : lowB s ((k : Int) + 1).toNat (2 : Int).toNat with
    | true =>
      have hL' := (low2_iff s k).1 hL
      have hd := hide (dec_three s k hk (unhide Hw) (by omega) (by unfold g1; rw [unhide Hlo, unhide Hhi]; omega) hL'.2.2.2)
      have hg2 := hL'.2.2.2
      unfold g2 at hg2
      have hb2 := by_get s (k + 2) (by omega)
      have hl2 := by_lt s (k + 2)
      obtain ⟨hz1, hz2, hz3, _⟩ := hL'
      go_enter Try.func63, Try.ntmps63
      go_wp2_with (first | (go_at_call 69; refine (within_any _ _ _ _).mono ?_; rintro r w' ⟨rfl, rfl⟩; simp only [fa0, fa1, fa2, fa3]) | (go_at_call 70; refine (low_int s _ _ _ hs (by omega) (by omega) (by omega) (by omega)).mono ?_; rintro r w' ⟨rfl, rfl⟩; simp only [hL]))
      go_ret2
      exact ⟨ret_beg (unhide hd) (ok_wide (unhide hd) (by decide)) (by omega) rfl, rfl⟩
    | false =>
      have hd := hide (dec_fail3 s k hk (by rw [unhide Hw]; decide) (fun h => by
        obtain ⟨h1, h2, h3⟩ := h
        unfold g1 at h2; rw [unhide Hlo, unhide Hhi] at h2
        rw [(low2_iff s k).2 ⟨h1, by omega, by omega, h3⟩] at hL
        cases hL))
      go_enter Try.func63, Try.ntmps63
      go_wp2_with (first | (go_at_call 69; refine (within_any _ _ _ _).mono ?_; rintro r w' ⟨rfl, rfl⟩; simp only [fa0, fa1, fa2, fa3]) | (go_at_call 70; refine (low_int s _ _ _ hs (by omega) (by omega) (by omega) (by omega)).mono ?_; rintro r w' ⟨rfl, rfl⟩; simp only [hL]))
      go_ret2
      exact ⟨ret_beg0 (unhide hd), rfl⟩
  · have hd := hide (dec_short s k hk (by rw [unhide Hw]; omega))
    have hL : lowB s ((k : Int) + 1).toNat (2 : Int).toNat = false := by
      rw [← Bool.not_eq_true, low2_iff]; omega
    go_enter Try.func63, Try.ntmps63
    go_wp2_with (first | (go_at_call 69; refine (within_any _ _ _ _).mono ?_; rintro r w' ⟨rfl, rfl⟩; simp only [fa0, fa1, fa2, fa3]) | (go_at_call 70; refine (low_int s _ _ _ hs (by omega) (by omega) (by omega) (by omega)).mono ?_; rintro r w' ⟨rfl, rfl⟩; simp only [hL]))
    go_ret2
    exact ⟨ret_beg0 (unhide hd), rfl⟩

end Go.Proofs.Ytiakhpfljjfaeaa

/-
  What the document's own begins answers, a class of first bytes at a time.
-/
set_option linter.unusedSimpArgs false
set_option linter.unusedVariables false
namespace Go.Proofs.Ytiakhpfljjfaeaa
open Go.RowKit Go.Lib

set_option maxRecDepth 100000 in
set_option maxHeartbeats 2000000 in
theorem begins_F0 (s : ByteArray) (k : Nat) (w : World) (hs : s.size ≤ 140737488355328) (hk : k < s.size) (hlo : 240 ≤ by_ s k) (hhi : by_ s k ≤ 240) :
    Calls Try.prog 63 #[.string s, .int .i64 k] w fun e w' => e = .returned (.tuple #[.int .i32 (bR s k), .int .i64 (bN s k)]) ∧ ∃ n, w' = w.drewN n := by
  have hb := by_get s k hk
  have hl := by_lt s k
  have hw : hW (by_ s k) = 4 := by unfold hW; (repeat' split) <;> omega
  have Hw := hide hw
  clear hw
  have fa0 : wI (by_ s k : Int) 194 223 = false := wI_no (by omega)
  have fa1 : wI (by_ s k : Int) 225 236 = false := wI_no (by omega)
  have fa2 : wI (by_ s k : Int) 238 239 = false := wI_no (by omega)
  have fa3 : wI (by_ s k : Int) 241 243 = false := wI_no (by omega)
  have fe0 : ((by_ s k : Int) == 224) = false := by rw [beq_eq_false_iff_ne]; omega
  have fe1 : ((by_ s k : Int) == 237) = false := by rw [beq_eq_false_iff_ne]; omega
  have fe2 : ((by_ s k : Int) == 240) = true := by rw [beq_iff_eq]; omega
  have fe3 : ((by_ s k : Int) == 244) = false := by rw [beq_eq_false_iff_ne]; omega
  have Hlo : Hid (hLo (by_ s k) = 144) := hide (by unfold hLo; (repeat' split) <;> omega)
  have Hhi : Hid (hHi (by_ s k) = 191) := hide (by unfold hHi; (repeat' split) <;> omega)
  by_cases hz : k + 1 < s.size
  · have hb1 := by_get s (k + 1) hz
    have hl1 := by_lt s (k + 1)
    by_cases hwb : 144 ≤ by_ s (k + 1) ∧ by_ s (k + 1) ≤ 191
    · obtain ⟨hw1, hw2⟩ := hwb
      have fb : wI (by_ s (k + 1) : Int) 144 191 = true := wI_yes (by omega) (by omega)
      cases hL : lowB s ((k : Int) + 1).toNat (3 : Int).toNat with
      | true =>
        have hL' := (low3_iff s k).1 hL
        have hd := hide (dec_four s k hk (unhide Hw) (by omega) (by unfold g1; rw [unhide Hlo, unhide Hhi]; omega) hL'.2.2.2.1 hL'.2.2.2.2)
        have hg2 := hL'.2.2.2.1
        unfold g2 at hg2
        have hb2 := by_get s (k + 2) (by omega)
        have hl2 := by_lt s (k + 2)
        have hg3 := hL'.2.2.2.2
        unfold g3 at hg3
        have hb3 := by_get s (k + 3) (by omega)
        have hl3 := by_lt s (k + 3)
        obtain ⟨hz1, hz2, hz3, _⟩ := hL'
        have hi2 : (k : Int) + 2 < (s.size : Int) := by omega
        have hi3 : (k : Int) + 3 < (s.size : Int) := by omega
        have hj2 : (0 : Int) ≤ (k : Int) + 2 := by omega
        have hj3 : (0 : Int) ≤ (k : Int) + 3 := by omega
        go_enter Try.func63, Try.ntmps63
        go_wp2_with (first | (go_at_call 69; refine (within_any _ _ _ _).mono ?_; rintro r w' ⟨rfl, rfl⟩; simp only [fa0, fa1, fa2, fa3, fb]) | (go_at_call 70; refine (low_int s _ _ _ hs (by omega) (by omega) (by omega) (by omega)).mono ?_; rintro r w' ⟨rfl, rfl⟩; simp only [hL]))
        go_quiet (fail)
        go_wp2
        go_ret2
        exact ⟨ret_beg (unhide hd) (ok_wide (unhide hd) (by decide)) (by omega) rfl, _, rfl⟩
      | false =>
        have hd := hide (dec_fail4 s k hk (by rw [unhide Hw]) (fun h => by
          obtain ⟨h1, h2, h3, h4⟩ := h
          unfold g1 at h2; rw [unhide Hlo, unhide Hhi] at h2
          rw [(low3_iff s k).2 ⟨h1, by omega, by omega, h3, h4⟩] at hL
          cases hL))
        go_enter Try.func63, Try.ntmps63
        go_wp2_with (first | (go_at_call 69; refine (within_any _ _ _ _).mono ?_; rintro r w' ⟨rfl, rfl⟩; simp only [fa0, fa1, fa2, fa3, fb]) | (go_at_call 70; refine (low_int s _ _ _ hs (by omega) (by omega) (by omega) (by omega)).mono ?_; rintro r w' ⟨rfl, rfl⟩; simp only [hL]))
        go_ret2
        exact ⟨ret_beg0 (unhide hd), 0, rfl⟩
    · have fb : wI (by_ s (k + 1) : Int) 144 191 = false := wI_no (by omega)
      have hd := hide (dec_no1 s k hk (by rw [unhide Hw]; decide) (fun h => by
        unfold g1 at h; rw [unhide Hlo, unhide Hhi] at h; exact hwb h))
      clear hwb
      go_enter Try.func63, Try.ntmps63
      go_wp2_with (go_at_call 69; refine (within_any _ _ _ _).mono ?_; rintro r w' ⟨rfl, rfl⟩; simp only [fa0, fa1, fa2, fa3, fb])
      go_ret2
      exact ⟨ret_beg0 (unhide hd), 0, rfl⟩
  · have hd := hide (dec_short s k hk (by rw [unhide Hw]; omega))
    have fb : wI 0 144 191 = false := wI_no (by omega)
    go_enter Try.func63, Try.ntmps63
    go_wp2_with (go_at_call 69; refine (within_any _ _ _ _).mono ?_; rintro r w' ⟨rfl, rfl⟩; simp only [fa0, fa1, fa2, fa3, fb])
    go_ret2
    exact ⟨ret_beg0 (unhide hd), 0, rfl⟩

set_option maxRecDepth 100000 in
set_option maxHeartbeats 2000000 in
theorem begins_F1 (s : ByteArray) (k : Nat) (w : World) (hs : s.size ≤ 140737488355328) (hk : k < s.size) (hlo : 241 ≤ by_ s k) (hhi : by_ s k ≤ 243) :
    Calls Try.prog 63 #[.string s, .int .i64 k] w fun e w' => e = .returned (.tuple #[.int .i32 (bR s k), .int .i64 (bN s k)]) ∧ ∃ n, w' = w.drewN n := by
  have hb := by_get s k hk
  have hl := by_lt s k
  have hw : hW (by_ s k) = 4 := by unfold hW; (repeat' split) <;> omega
  have Hw := hide hw
  clear hw
  have fa0 : wI (by_ s k : Int) 194 223 = false := wI_no (by omega)
  have fa1 : wI (by_ s k : Int) 225 236 = false := wI_no (by omega)
  have fa2 : wI (by_ s k : Int) 238 239 = false := wI_no (by omega)
  have fa3 : wI (by_ s k : Int) 241 243 = true := wI_yes (by omega) (by omega)
  have fe0 : ((by_ s k : Int) == 224) = false := by rw [beq_eq_false_iff_ne]; omega
  have fe1 : ((by_ s k : Int) == 237) = false := by rw [beq_eq_false_iff_ne]; omega
  have fe2 : ((by_ s k : Int) == 240) = false := by rw [beq_eq_false_iff_ne]; omega
  have fe3 : ((by_ s k : Int) == 244) = false := by rw [beq_eq_false_iff_ne]; omega
  have Hlo : Hid (hLo (by_ s k) = 128) := hide (by unfold hLo; (repeat' split) <;> omega)
  have Hhi : Hid (hHi (by_ s k) = 191) := hide (by unfold hHi; (repeat' split) <;> omega)
  by_cases hz : k + 1 < s.size
  · have hb1 := by_get s (k + 1) hz
    have hl1 := by_lt s (k + 1)
    cases hL : lowB s ((k : Int) + 1).toNat (3 : Int).toNat with
    | true =>
      have hL' := (low3_iff s k).1 hL
      have hd := hide (dec_four s k hk (unhide Hw) (by omega) (by unfold g1; rw [unhide Hlo, unhide Hhi]; omega) hL'.2.2.2.1 hL'.2.2.2.2)
      have hg2 := hL'.2.2.2.1
      unfold g2 at hg2
      have hb2 := by_get s (k + 2) (by omega)
      have hl2 := by_lt s (k + 2)
      have hg3 := hL'.2.2.2.2
      unfold g3 at hg3
      have hb3 := by_get s (k + 3) (by omega)
      have hl3 := by_lt s (k + 3)
      obtain ⟨hz1, hz2, hz3, _⟩ := hL'
      have hi2 : (k : Int) + 2 < (s.size : Int) := by omega
      have hi3 : (k : Int) + 3 < (s.size : Int) := by omega
      have hj2 : (0 : Int) ≤ (k : Int) + 2 := by omega
      have hj3 : (0 : Int) ≤ (k : Int) + 3 := by omega
      go_enter Try.func63, Try.ntmps63
      go_wp2_with (first | (go_at_call 69; refine (within_any _ _ _ _).mono ?_; rintro r w' ⟨rfl, rfl⟩; simp only [fa0, fa1, fa2, fa3]) | (go_at_call 70; refine (low_int s _ _ _ hs (by omega) (by omega) (by omega) (by omega)).mono ?_; rintro r w' ⟨rfl, rfl⟩; simp only [hL]))
      go_quiet (fail)
      go_wp2
      go_ret2
      exact ⟨ret_beg (unhide hd) (ok_wide (unhide hd) (by decide)) (by omega) rfl, _, rfl⟩
    | false =>
      have hd := hide (dec_fail4 s k hk (by rw [unhide Hw]) (fun h => by
        obtain ⟨h1, h2, h3, h4⟩ := h
        unfold g1 at h2; rw [unhide Hlo, unhide Hhi] at h2
        rw [(low3_iff s k).2 ⟨h1, by omega, by omega, h3, h4⟩] at hL
        cases hL))
      go_enter Try.func63, Try.ntmps63
      go_wp2_with (first | (go_at_call 69; refine (within_any _ _ _ _).mono ?_; rintro r w' ⟨rfl, rfl⟩; simp only [fa0, fa1, fa2, fa3]) | (go_at_call 70; refine (low_int s _ _ _ hs (by omega) (by omega) (by omega) (by omega)).mono ?_; rintro r w' ⟨rfl, rfl⟩; simp only [hL]))
      go_ret2
      exact ⟨ret_beg0 (unhide hd), 0, rfl⟩
  · have hd := hide (dec_short s k hk (by rw [unhide Hw]; omega))
    have hL : lowB s ((k : Int) + 1).toNat (3 : Int).toNat = false := by
      rw [← Bool.not_eq_true, low3_iff]; omega
    go_enter Try.func63, Try.ntmps63
    go_wp2_with (first | (go_at_call 69; refine (within_any _ _ _ _).mono ?_; rintro r w' ⟨rfl, rfl⟩; simp only [fa0, fa1, fa2, fa3]) | (go_at_call 70; refine (low_int s _ _ _ hs (by omega) (by omega) (by omega) (by omega)).mono ?_; rintro r w' ⟨rfl, rfl⟩; simp only [hL]))
    go_ret2
    exact ⟨ret_beg0 (unhide hd), 0, rfl⟩

set_option maxRecDepth 100000 in
set_option maxHeartbeats 2000000 in
theorem begins_F4 (s : ByteArray) (k : Nat) (w : World) (hs : s.size ≤ 140737488355328) (hk : k < s.size) (hlo : 244 ≤ by_ s k) (hhi : by_ s k ≤ 244) :
    Calls Try.prog 63 #[.string s, .int .i64 k] w fun e w' => e = .returned (.tuple #[.int .i32 (bR s k), .int .i64 (bN s k)]) ∧ ∃ n, w' = w.drewN n := by
  have hb := by_get s k hk
  have hl := by_lt s k
  have hw : hW (by_ s k) = 4 := by unfold hW; (repeat' split) <;> omega
  have Hw := hide hw
  clear hw
  have fa0 : wI (by_ s k : Int) 194 223 = false := wI_no (by omega)
  have fa1 : wI (by_ s k : Int) 225 236 = false := wI_no (by omega)
  have fa2 : wI (by_ s k : Int) 238 239 = false := wI_no (by omega)
  have fa3 : wI (by_ s k : Int) 241 243 = false := wI_no (by omega)
  have fe0 : ((by_ s k : Int) == 224) = false := by rw [beq_eq_false_iff_ne]; omega
  have fe1 : ((by_ s k : Int) == 237) = false := by rw [beq_eq_false_iff_ne]; omega
  have fe2 : ((by_ s k : Int) == 240) = false := by rw [beq_eq_false_iff_ne]; omega
  have fe3 : ((by_ s k : Int) == 244) = true := by rw [beq_iff_eq]; omega
  have Hlo : Hid (hLo (by_ s k) = 128) := hide (by unfold hLo; (repeat' split) <;> omega)
  have Hhi : Hid (hHi (by_ s k) = 143) := hide (by unfold hHi; (repeat' split) <;> omega)
  by_cases hz : k + 1 < s.size
  · have hb1 := by_get s (k + 1) hz
    have hl1 := by_lt s (k + 1)
    by_cases hwb : 128 ≤ by_ s (k + 1) ∧ by_ s (k + 1) ≤ 143
    · obtain ⟨hw1, hw2⟩ := hwb
      have fb : wI (by_ s (k + 1) : Int) 128 143 = true := wI_yes (by omega) (by omega)
      cases hL : lowB s ((k : Int) + 1).toNat (3 : Int).toNat with
      | true =>
        have hL' := (low3_iff s k).1 hL
        have hd := hide (dec_four s k hk (unhide Hw) (by omega) (by unfold g1; rw [unhide Hlo, unhide Hhi]; omega) hL'.2.2.2.1 hL'.2.2.2.2)
        have hg2 := hL'.2.2.2.1
        unfold g2 at hg2
        have hb2 := by_get s (k + 2) (by omega)
        have hl2 := by_lt s (k + 2)
        have hg3 := hL'.2.2.2.2
        unfold g3 at hg3
        have hb3 := by_get s (k + 3) (by omega)
        have hl3 := by_lt s (k + 3)
        obtain ⟨hz1, hz2, hz3, _⟩ := hL'
        have hi2 : (k : Int) + 2 < (s.size : Int) := by omega
        have hi3 : (k : Int) + 3 < (s.size : Int) := by omega
        have hj2 : (0 : Int) ≤ (k : Int) + 2 := by omega
        have hj3 : (0 : Int) ≤ (k : Int) + 3 := by omega
        go_enter Try.func63, Try.ntmps63
        go_wp2_with (first | (go_at_call 69; refine (within_any _ _ _ _).mono ?_; rintro r w' ⟨rfl, rfl⟩; simp only [fa0, fa1, fa2, fa3, fb]) | (go_at_call 70; refine (low_int s _ _ _ hs (by omega) (by omega) (by omega) (by omega)).mono ?_; rintro r w' ⟨rfl, rfl⟩; simp only [hL]))
        go_quiet (fail)
        go_wp2
        go_ret2
        exact ⟨ret_beg (unhide hd) (ok_wide (unhide hd) (by decide)) (by omega) rfl, _, rfl⟩
      | false =>
        have hd := hide (dec_fail4 s k hk (by rw [unhide Hw]) (fun h => by
          obtain ⟨h1, h2, h3, h4⟩ := h
          unfold g1 at h2; rw [unhide Hlo, unhide Hhi] at h2
          rw [(low3_iff s k).2 ⟨h1, by omega, by omega, h3, h4⟩] at hL
          cases hL))
        go_enter Try.func63, Try.ntmps63
        go_wp2_with (first | (go_at_call 69; refine (within_any _ _ _ _).mono ?_; rintro r w' ⟨rfl, rfl⟩; simp only [fa0, fa1, fa2, fa3, fb]) | (go_at_call 70; refine (low_int s _ _ _ hs (by omega) (by omega) (by omega) (by omega)).mono ?_; rintro r w' ⟨rfl, rfl⟩; simp only [hL]))
        go_ret2
        exact ⟨ret_beg0 (unhide hd), 0, rfl⟩
    · have fb : wI (by_ s (k + 1) : Int) 128 143 = false := wI_no (by omega)
      have hd := hide (dec_no1 s k hk (by rw [unhide Hw]; decide) (fun h => by
        unfold g1 at h; rw [unhide Hlo, unhide Hhi] at h; exact hwb h))
      clear hwb
      go_enter Try.func63, Try.ntmps63
      go_wp2_with (go_at_call 69; refine (within_any _ _ _ _).mono ?_; rintro r w' ⟨rfl, rfl⟩; simp only [fa0, fa1, fa2, fa3, fb])
      go_ret2
      exact ⟨ret_beg0 (unhide hd), 0, rfl⟩
  · have hd := hide (dec_short s k hk (by rw [unhide Hw]; omega))
    have fb : wI 0 128 143 = false := wI_no (by omega)
    go_enter Try.func63, Try.ntmps63
    go_wp2_with (go_at_call 69; refine (within_any _ _ _ _).mono ?_; rintro r w' ⟨rfl, rfl⟩; simp only [fa0, fa1, fa2, fa3, fb])
    go_ret2
    exact ⟨ret_beg0 (unhide hd), 0, rfl⟩

end Go.Proofs.Ytiakhpfljjfaeaa
