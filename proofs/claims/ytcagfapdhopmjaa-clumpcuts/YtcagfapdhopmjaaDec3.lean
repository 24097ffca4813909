/-
  glyph.Decode at a first byte of 3 bytes.
-/
import Derived.Test.YtcagfapdhopmjaaDec
namespace Go.Proofs.Ytcagfapdhopmjaa
open Go.RowKit Go.Lib

set_option maxHeartbeats 1000000 in
theorem decode_three (s : ByteArray) (k : Nat) (w : World) (hs : s.size ≤ maxLen) (hk : k < s.size) (hW2 : hW (by_ s k) = 3) (hn : k + 3 ≤ s.size) :
    Calls Try.prog 34 #[.string s, .int .i64 k] w fun e w' => e = .returned (.tuple #[.int .i32 (rn s k : Nat), .int .i64 (wd s k : Nat), .bool (okR s k)]) ∧ w = w' := by
  unfold maxLen at hs
  have hb := by_get s k hk
  have hl := by_lt s k
  have hb1 := by_get s (k + 1) (by omega)
  have hl1 := by_lt s (k + 1)
  have hb2 := by_get s (k + 2) (by omega)
  have hl2 := by_lt s (k + 2)
  go_enter Try.func34, Try.ntmps34
  go_wp2_with (go_at_call 44; refine (head_any _ _ (by_lt s k)).mono ?_; rintro e w' ⟨rfl, rfl⟩; rw [hW2])
  go_loop [9, 10, 11, 12] (fun lo hi r i => (i = .int .i64 ((k : Int) + 1) ∧ lo = .int .u8 (hLo (by_ s k) : Nat) ∧ hi = .int .u8 (hHi (by_ s k) : Nat) ∧ r = .int .i32 ((by_ s k : Int) % 16)) ∨ (g1 s k ∧ i = .int .i64 ((k : Int) + 2) ∧ lo = .int .u8 128 ∧ hi = .int .u8 191 ∧ r = .int .i32 ((by_ s k : Int) % 16 * 64 + (by_ s (k + 1) : Int) % 64)) ∨ (g1 s k ∧ g2 s k ∧ i = .int .i64 ((k : Int) + 3) ∧ r = .int .i32 (((by_ s k : Int) % 16 * 64 + (by_ s (k + 1) : Int) % 64) * 64 + (by_ s (k + 2) : Int) % 64))) (fun _ _ _ i => k + 3 - (intOf i).toNat)
  case atStart => exact .inl ⟨rfl, rfl, rfl, rfl⟩
  case round =>
    rcases hrel with ⟨rfl, rfl, rfl, rfl⟩ | ⟨G1, rfl, rfl, rfl, rfl⟩ | ⟨G1, G2, rfl, rfl⟩
    · by_cases hg : hLo (by_ s k) ≤ by_ s (k + 1) ∧ by_ s (k + 1) ≤ hHi (by_ s k)
      · obtain ⟨hg1, hg2⟩ := hg
        go_wp2
        go_round
        case rel => exact .inr (.inl ⟨⟨hg1, hg2⟩, by go_num, rfl, rfl, rfl⟩)
        case measure => simp [intOf]; omega
      · have hd := dec_no1 s k hk (by omega) hg
        have Hd := hide hd
        clear hd
        by_cases hg1 : hLo (by_ s k) ≤ by_ s (k + 1)
        all_goals
          go_wp2
          go_ret3
          exact ⟨ret_dec (unhide Hd) rfl rfl (ok_bad (unhide Hd)), rfl⟩
    · by_cases hg : 128 ≤ by_ s (k + 2) ∧ by_ s (k + 2) ≤ 191
      · obtain ⟨hg1, hg2⟩ := hg
        go_wp2
        go_round
        case rel => exact .inr (.inr (⟨G1, ⟨hg1, hg2⟩, by go_num, rfl⟩))
        case measure => simp [intOf]; omega
      · have hd := dec_no2 s k hk (by omega) hg
        have Hd := hide hd
        clear hd
        by_cases hg1 : 128 ≤ by_ s (k + 2)
        all_goals
          go_wp2
          go_ret3
          exact ⟨ret_dec (unhide Hd) rfl rfl (ok_bad (unhide Hd)), rfl⟩
    · have hd := dec_three s k hk hW2 hn G1 G2
      have Hd := hide hd
      clear hd
      go_wp2
      go_ret3
      exact ⟨ret_dec (unhide Hd) (by omega) rfl (ok_wide (unhide Hd) (by decide)), rfl⟩

end Go.Proofs.Ytcagfapdhopmjaa
