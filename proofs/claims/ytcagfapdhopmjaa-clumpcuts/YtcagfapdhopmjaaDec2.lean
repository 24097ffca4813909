/-
  glyph.Decode at a first byte of 2 bytes.
-/
import Derived.Test.YtcagfapdhopmjaaDec
namespace Go.Proofs.Ytcagfapdhopmjaa
open Go.RowKit Go.Lib

set_option maxHeartbeats 1000000 in
theorem decode_two (s : ByteArray) (k : Nat) (w : World) (hs : s.size ≤ maxLen) (hk : k < s.size) (hW2 : hW (by_ s k) = 2) (hn : k + 2 ≤ s.size) :
    Calls Try.prog 34 #[.string s, .int .i64 k] w fun e w' => e = .returned (.tuple #[.int .i32 (rn s k : Nat), .int .i64 (wd s k : Nat), .bool (okR s k)]) ∧ w = w' := by
  unfold maxLen at hs
  have hb := by_get s k hk
  have hl := by_lt s k
  have hb1 := by_get s (k + 1) (by omega)
  have hl1 := by_lt s (k + 1)
  go_enter Try.func34, Try.ntmps34
  go_wp2_with (go_at_call 44; refine (head_any _ _ (by_lt s k)).mono ?_; rintro e w' ⟨rfl, rfl⟩; rw [hW2])
  go_loop [9, 10, 11, 12] (fun lo hi r i => (i = .int .i64 ((k : Int) + 1) ∧ lo = .int .u8 (hLo (by_ s k) : Nat) ∧ hi = .int .u8 (hHi (by_ s k) : Nat) ∧ r = .int .i32 ((by_ s k : Int) % 32)) ∨ (g1 s k ∧ i = .int .i64 ((k : Int) + 2) ∧ r = .int .i32 ((by_ s k : Int) % 32 * 64 + (by_ s (k + 1) : Int) % 64))) (fun _ _ _ i => k + 2 - (intOf i).toNat)
  case atStart => exact .inl ⟨rfl, rfl, rfl, rfl⟩
  case round =>
    rcases hrel with ⟨rfl, rfl, rfl, rfl⟩ | ⟨G1, rfl, rfl⟩
    · by_cases hg : hLo (by_ s k) ≤ by_ s (k + 1) ∧ by_ s (k + 1) ≤ hHi (by_ s k)
      · obtain ⟨hg1, hg2⟩ := hg
        go_wp2
        go_round
        case rel => exact .inr (⟨⟨hg1, hg2⟩, by go_num, rfl⟩)
        case measure => simp [intOf]; omega
      · have hd := dec_no1 s k hk (by omega) hg
        have Hd := hide hd
        clear hd
        by_cases hg1 : hLo (by_ s k) ≤ by_ s (k + 1)
        all_goals
          go_wp2
          go_ret3
          exact ⟨ret_dec (unhide Hd) rfl rfl (ok_bad (unhide Hd)), rfl⟩
    · have hd := dec_two s k hk hW2 hn G1
      have Hd := hide hd
      clear hd
      go_wp2
      go_ret3
      exact ⟨ret_dec (unhide Hd) (by omega) rfl (ok_wide (unhide Hd) (by decide)), rfl⟩

end Go.Proofs.Ytcagfapdhopmjaa
