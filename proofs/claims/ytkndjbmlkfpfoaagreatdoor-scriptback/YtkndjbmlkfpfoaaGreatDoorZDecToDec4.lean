/-
  What glyph.head and glyph.Decode answer, for every text and every place.
-/
import Derived.Test.YtkndjbmlkfpfoaaGreatDoorZPure
import Derived.Test.YtkndjbmlkfpfoaaGreatDoorProg
import Derived.WalkKit
import Derived.WalkSpells
import Derived.WalkLawsBesides

namespace Go.Proofs.YtkndjbmlkfpfoaaGreatDoor
open Go.RowKit Go.Lib

theorem hide {p : Prop} (h : p) : Hid p := h
theorem unhide {p : Prop} (h : Hid p) : p := h

theorem ret3 {a a' b b' c c' : Int} {k l m : IntKind} (h : a = a') (h2 : b = b') (h3 : c = c') : Ending.returned (.tuple #[.int k a, .int l b, .int m c]) = .returned (.tuple #[.int k a', .int l b', .int m c']) := by rw [h, h2, h3]

set_option maxHeartbeats 400000 in
theorem head_any (b : Nat) (w : World) (hb : b < 256) :
    Calls Tryz.prog 130 #[.int .u8 b] w fun e w' => e = .returned (.tuple #[.int .i64 (hW b : Nat), .int .u8 (hLo b : Nat), .int .u8 (hHi b : Nat)]) ∧ w = w' := by
  have hc : b ≤ 127 ∨ (127 < b ∧ b ≤ 193) ∨ (193 < b ∧ b ≤ 223) ∨ b = 224 ∨ b = 237 ∨ (224 < b ∧ b < 237) ∨ (237 < b ∧ b ≤ 239) ∨ b = 240 ∨ (240 < b ∧ b ≤ 243) ∨ b = 244 ∨ 244 < b := by omega
  rcases hc with h | ⟨h, h'⟩ | ⟨h, h'⟩ | h | h | ⟨h, h'⟩ | ⟨h, h'⟩ | h | ⟨h, h'⟩ | h | h
  all_goals (try subst h)
  all_goals
    go_enter Tryz.func130, Tryz.ntmps130
    go_wp2
    go_ret3
    exact ⟨ret3 (by unfold hW; (repeat' split) <;> omega) (by unfold hLo; (repeat' split) <;> omega) (by unfold hHi; (repeat' split) <;> omega), rfl⟩

set_option maxHeartbeats 400000 in
theorem decode_out (s : ByteArray) (at_ : Int) (w : World) (hs : s.size ≤ maxLen) (h : at_ < 0 ∨ s.size ≤ at_) :
    Calls Tryz.prog 114 #[.string s, .int .i64 at_] w fun e w' => e = .returned (.tuple #[.int .i32 0, .int .i64 0, .bool false]) ∧ w = w' := by
  unfold maxLen at hs
  rcases h with h | h
  · go_enter Tryz.func114, Tryz.ntmps114
    go_wp2
    go_ret3
    exact ⟨rfl, rfl⟩
  · have h' : ¬ at_ < 0 := by omega
    go_enter Tryz.func114, Tryz.ntmps114
    go_wp2
    go_ret3
    exact ⟨rfl, rfl⟩

set_option maxHeartbeats 400000 in
theorem decode_one (s : ByteArray) (k : Nat) (w : World) (hs : s.size ≤ maxLen) (hk : k < s.size) (h1 : by_ s k ≤ 127) :
    Calls Tryz.prog 114 #[.string s, .int .i64 k] w fun e w' => e = .returned (.tuple #[.int .i32 (by_ s k : Nat), .int .i64 1, .bool true]) ∧ w = w' := by
  unfold maxLen at hs
  have hb := by_get s k hk
  have hl := by_lt s k
  have hw : hW (by_ s k) = 1 := by unfold hW; rw [if_pos h1]
  go_enter Tryz.func114, Tryz.ntmps114
  go_wp2_with (go_at_call 130; refine (head_any _ _ (by_lt s k)).mono ?_; rintro e w' ⟨rfl, rfl⟩; rw [hw])
  go_ret3
  exact ⟨rfl, rfl⟩

set_option maxHeartbeats 400000 in
theorem decode_bad (s : ByteArray) (k : Nat) (w : World) (hs : s.size ≤ maxLen) (hk : k < s.size) (h1 : hW (by_ s k) = 0 ∨ s.size - k < hW (by_ s k)) :
    Calls Tryz.prog 114 #[.string s, .int .i64 k] w fun e w' => e = .returned (.tuple #[.int .i32 65533, .int .i64 1, .bool false]) ∧ w = w' := by
  unfold maxLen at hs
  have hb := by_get s k hk
  have hl := by_lt s k
  have hl4 := hW_le (by_ s k)
  rcases h1 with h1 | h1
  · go_enter Tryz.func114, Tryz.ntmps114
    go_wp2_with (go_at_call 130; refine (head_any _ _ (by_lt s k)).mono ?_; rintro e w' ⟨rfl, rfl⟩; rw [h1])
    go_ret3
    exact ⟨rfl, rfl⟩
  · have h0 : ((hW (by_ s k) : Int) == 0) = false := by
      rw [beq_eq_false_iff_ne]; omega
    go_enter Tryz.func114, Tryz.ntmps114
    go_wp2_with (go_at_call 130; refine (head_any _ _ (by_lt s k)).mono ?_; rintro e w' ⟨rfl, rfl⟩)
    go_ret3
    exact ⟨rfl, rfl⟩

theorem ret_dec {s : ByteArray} {k : Nat} {a b : Int} {o : Bool} {r n : Nat} (h : Utf8.decode s k = (r, n)) (ha : a = r) (hb : b = n) (ho : okR s k = o) :
    Ending.returned (.tuple #[.int .i32 a, .int .i64 b, .bool o]) = .returned (.tuple #[.int .i32 (rn s k : Nat), .int .i64 (wd s k : Nat), .bool (okR s k)]) := by
  rw [ha, hb, ← ho, rn_of h, wd_of h]

end Go.Proofs.YtkndjbmlkfpfoaaGreatDoor

/-
  glyph.Decode at a first byte of 2 bytes.
-/
namespace Go.Proofs.YtkndjbmlkfpfoaaGreatDoor
open Go.RowKit Go.Lib

set_option maxHeartbeats 1000000 in
theorem decode_two (s : ByteArray) (k : Nat) (w : World) (hs : s.size ≤ maxLen) (hk : k < s.size) (hW2 : hW (by_ s k) = 2) (hn : k + 2 ≤ s.size) :
    Calls Tryz.prog 114 #[.string s, .int .i64 k] w fun e w' => e = .returned (.tuple #[.int .i32 (rn s k : Nat), .int .i64 (wd s k : Nat), .bool (okR s k)]) ∧ w = w' := by
  unfold maxLen at hs
  have hb := by_get s k hk
  have hl := by_lt s k
  have hb1 := by_get s (k + 1) (by omega)
  have hl1 := by_lt s (k + 1)
  go_enter Tryz.func114, Tryz.ntmps114
  go_wp2_with (go_at_call 130; refine (head_any _ _ (by_lt s k)).mono ?_; rintro e w' ⟨rfl, rfl⟩; rw [hW2])
  go_loop [9, 10, 11, 12] (fun lo hi r i => (i = .int .i64 ((k : Int) + 1) ∧ lo = .int .u8 (hLo (by_ s k) : Nat) ∧ hi = .int .u8 (hHi (by_ s k) : Nat) ∧ r = .int .i32 ((by_ s k : Int) % 32)) ∨ (g1 s k ∧ i = .int .i64 ((k : Int) + 2) ∧ r = .int .i32 ((by_ s k : Int) % 32 * 64 + (by_ s (k + 1) : Int) % 64))) (fun _ _ _ i => k + 2 - (intOf i).toNat)
  case atStart => exact .inl ⟨rfl, rfl, rfl, rfl⟩
  case round =>
    rcases hrel with ⟨rfl, rfl, rfl, rfl⟩ | ⟨G1, rfl, rfl⟩
    · by_cases hg : hLo (by_ s k) ≤ by_ s (k + 1) ∧ by_ s (k + 1) ≤ hHi (by_ s k)
      · obtain ⟨hg1, hg2⟩ := hg
        go_wp2
        go_round
        case rel => exact .inr (⟨⟨hg1, hg2⟩, by go_num, rfl⟩)
        case measure => simp [intOf]; omega
      · have hd := dec_no1 s k hk (by omega) hg
        have Hd := hide hd
        clear hd
        by_cases hg1 : hLo (by_ s k) ≤ by_ s (k + 1)
        all_goals
          go_wp2
          go_ret3
          exact ⟨ret_dec (unhide Hd) rfl rfl (ok_bad (unhide Hd)), rfl⟩
    · have hd := dec_two s k hk hW2 hn G1
      have Hd := hide hd
      clear hd
      go_wp2
      go_ret3
      exact ⟨ret_dec (unhide Hd) (by omega) rfl (ok_wide (unhide Hd) (by decide)), rfl⟩

end Go.Proofs.YtkndjbmlkfpfoaaGreatDoor

/-
  glyph.Decode at a first byte of 3 bytes.
-/
namespace Go.Proofs.YtkndjbmlkfpfoaaGreatDoor
open Go.RowKit Go.Lib

set_option maxHeartbeats 1000000 in
theorem decode_three (s : ByteArray) (k : Nat) (w : World) (hs : s.size ≤ maxLen) (hk : k < s.size) (hW2 : hW (by_ s k) = 3) (hn : k + 3 ≤ s.size) :
    Calls Tryz.prog 114 #[.string s, .int .i64 k] w fun e w' => e = .returned (.tuple #[.int .i32 (rn s k : Nat), .int .i64 (wd s k : Nat), .bool (okR s k)]) ∧ w = w' := by
  unfold maxLen at hs
  have hb := by_get s k hk
  have hl := by_lt s k
  have hb1 := by_get s (k + 1) (by omega)
  have hl1 := by_lt s (k + 1)
  have hb2 := by_get s (k + 2) (by omega)
  have hl2 := by_lt s (k + 2)
  go_enter Tryz.func114, Tryz.ntmps114
  go_wp2_with (go_at_call 130; refine (head_any _ _ (by_lt s k)).mono ?_; rintro e w' ⟨rfl, rfl⟩; rw [hW2])
  go_loop [9, 10, 11, 12] (fun lo hi r i => (i = .int .i64 ((k : Int) + 1) ∧ lo = .int .u8 (hLo (by_ s k) : Nat) ∧ hi = .int .u8 (hHi (by_ s k) : Nat) ∧ r = .int .i32 ((by_ s k : Int) % 16)) ∨ (g1 s k ∧ i = .int .i64 ((k : Int) + 2) ∧ lo = .int .u8 128 ∧ hi = .int .u8 191 ∧ r = .int .i32 ((by_ s k : Int) % 16 * 64 + (by_ s (k + 1) : Int) % 64)) ∨ (g1 s k ∧ g2 s k ∧ i = .int .i64 ((k : Int) + 3) ∧ r = .int .i32 (((by_ s k : Int) % 16 * 64 + (by_ s (k + 1) : Int) % 64) * 64 + (by_ s (k + 2) : Int) % 64))) (fun _ _ _ i => k + 3 - (intOf i).toNat)
  case atStart => exact .inl ⟨rfl, rfl, rfl, rfl⟩
  case round =>
    rcases hrel with ⟨rfl, rfl, rfl, rfl⟩ | ⟨G1, rfl, rfl, rfl, rfl⟩ | ⟨G1, G2, rfl, rfl⟩
    · by_cases hg : hLo (by_ s k) ≤ by_ s (k + 1) ∧ by_ s (k + 1) ≤ hHi (by_ s k)
      · obtain ⟨hg1, hg2⟩ := hg
        go_wp2
        go_round
        case rel => exact .inr (.inl ⟨⟨hg1, hg2⟩, by go_num, rfl, rfl, rfl⟩)
        case measure => simp [intOf]; omega
      · have hd := dec_no1 s k hk (by omega) hg
        have Hd := hide hd
        clear hd
        by_cases hg1 : hLo (by_ s k) ≤ by_ s (k + 1)
        all_goals
          go_wp2
          go_ret3
          exact ⟨ret_dec (unhide Hd) rfl rfl (ok_bad (unhide Hd)), rfl⟩
    · by_cases hg : 128 ≤ by_ s (k + 2) ∧ by_ s (k + 2) ≤ 191
      · obtain ⟨hg1, hg2⟩ := hg
        go_wp2
        go_round
        case rel => exact .inr (.inr (⟨G1, ⟨hg1, hg2⟩, by go_num, rfl⟩))
        case measure => simp [intOf]; omega
      · have hd := dec_no2 s k hk (by omega) hg
        have Hd := hide hd
        clear hd
        by_cases hg1 : 128 ≤ by_ s (k + 2)
        all_goals
          go_wp2
          go_ret3
          exact ⟨ret_dec (unhide Hd) rfl rfl (ok_bad (unhide Hd)), rfl⟩
    · have hd := dec_three s k hk hW2 hn G1 G2
      have Hd := hide hd
      clear hd
      go_wp2
      go_ret3
      exact ⟨ret_dec (unhide Hd) (by omega) rfl (ok_wide (unhide Hd) (by decide)), rfl⟩

end Go.Proofs.YtkndjbmlkfpfoaaGreatDoor

/-
  glyph.Decode at a first byte of 4 bytes.
-/
namespace Go.Proofs.YtkndjbmlkfpfoaaGreatDoor
open Go.RowKit Go.Lib

set_option maxHeartbeats 1000000 in
theorem decode_four (s : ByteArray) (k : Nat) (w : World) (hs : s.size ≤ maxLen) (hk : k < s.size) (hW2 : hW (by_ s k) = 4) (hn : k + 4 ≤ s.size) :
    Calls Tryz.prog 114 #[.string s, .int .i64 k] w fun e w' => e = .returned (.tuple #[.int .i32 (rn s k : Nat), .int .i64 (wd s k : Nat), .bool (okR s k)]) ∧ w = w' := by
  unfold maxLen at hs
  have hb := by_get s k hk
  have hl := by_lt s k
  have hb1 := by_get s (k + 1) (by omega)
  have hl1 := by_lt s (k + 1)
  have hb2 := by_get s (k + 2) (by omega)
  have hl2 := by_lt s (k + 2)
  have hb3 := by_get s (k + 3) (by omega)
  have hl3 := by_lt s (k + 3)
  go_enter Tryz.func114, Tryz.ntmps114
  go_wp2_with (go_at_call 130; refine (head_any _ _ (by_lt s k)).mono ?_; rintro e w' ⟨rfl, rfl⟩; rw [hW2])
  go_loop [9, 10, 11, 12] (fun lo hi r i => (i = .int .i64 ((k : Int) + 1) ∧ lo = .int .u8 (hLo (by_ s k) : Nat) ∧ hi = .int .u8 (hHi (by_ s k) : Nat) ∧ r = .int .i32 ((by_ s k : Int) % 8)) ∨ (g1 s k ∧ i = .int .i64 ((k : Int) + 2) ∧ lo = .int .u8 128 ∧ hi = .int .u8 191 ∧ r = .int .i32 ((by_ s k : Int) % 8 * 64 + (by_ s (k + 1) : Int) % 64)) ∨ (g1 s k ∧ g2 s k ∧ i = .int .i64 ((k : Int) + 3) ∧ lo = .int .u8 128 ∧ hi = .int .u8 191 ∧ r = .int .i32 (((by_ s k : Int) % 8 * 64 + (by_ s (k + 1) : Int) % 64) * 64 + (by_ s (k + 2) : Int) % 64)) ∨ (g1 s k ∧ g2 s k ∧ g3 s k ∧ i = .int .i64 ((k : Int) + 4) ∧ r = .int .i32 ((((by_ s k : Int) % 8 * 64 + (by_ s (k + 1) : Int) % 64) * 64 + (by_ s (k + 2) : Int) % 64) * 64 + (by_ s (k + 3) : Int) % 64))) (fun _ _ _ i => k + 4 - (intOf i).toNat)
  case atStart => exact .inl ⟨rfl, rfl, rfl, rfl⟩
  case round =>
    rcases hrel with ⟨rfl, rfl, rfl, rfl⟩ | ⟨G1, rfl, rfl, rfl, rfl⟩ | ⟨G1, G2, rfl, rfl, rfl, rfl⟩ | ⟨G1, G2, G3, rfl, rfl⟩
    · by_cases hg : hLo (by_ s k) ≤ by_ s (k + 1) ∧ by_ s (k + 1) ≤ hHi (by_ s k)
      · obtain ⟨hg1, hg2⟩ := hg
        go_wp2
        go_round
        case rel => exact .inr (.inl ⟨⟨hg1, hg2⟩, by go_num, rfl, rfl, rfl⟩)
        case measure => simp [intOf]; omega
      · have hd := dec_no1 s k hk (by omega) hg
        have Hd := hide hd
        clear hd
        by_cases hg1 : hLo (by_ s k) ≤ by_ s (k + 1)
        all_goals
          go_wp2
          go_ret3
          exact ⟨ret_dec (unhide Hd) rfl rfl (ok_bad (unhide Hd)), rfl⟩
    · by_cases hg : 128 ≤ by_ s (k + 2) ∧ by_ s (k + 2) ≤ 191
      · obtain ⟨hg1, hg2⟩ := hg
        go_wp2
        go_round
        case rel => exact .inr (.inr (.inl ⟨G1, ⟨hg1, hg2⟩, by go_num, rfl, rfl, rfl⟩))
        case measure => simp [intOf]; omega
      · have hd := dec_no2 s k hk (by omega) hg
        have Hd := hide hd
        clear hd
        by_cases hg1 : 128 ≤ by_ s (k + 2)
        all_goals
          go_wp2
          go_ret3
          exact ⟨ret_dec (unhide Hd) rfl rfl (ok_bad (unhide Hd)), rfl⟩
    · by_cases hg : 128 ≤ by_ s (k + 3) ∧ by_ s (k + 3) ≤ 191
      · obtain ⟨hg1, hg2⟩ := hg
        go_wp2
        go_round
        case rel => exact .inr (.inr (.inr (⟨G1, G2, ⟨hg1, hg2⟩, by go_num, rfl⟩)))
        case measure => simp [intOf]; omega
      · have hd := dec_no3 s k hk (by omega) hg
        have Hd := hide hd
        clear hd
        by_cases hg1 : 128 ≤ by_ s (k + 3)
        all_goals
          go_wp2
          go_ret3
          exact ⟨ret_dec (unhide Hd) rfl rfl (ok_bad (unhide Hd)), rfl⟩
    · have hd := dec_four s k hk hW2 hn G1 G2 G3
      have Hd := hide hd
      clear hd
      go_wp2
      go_ret3
      exact ⟨ret_dec (unhide Hd) (by omega) rfl (ok_wide (unhide Hd) (by decide)), rfl⟩

end Go.Proofs.YtkndjbmlkfpfoaaGreatDoor
