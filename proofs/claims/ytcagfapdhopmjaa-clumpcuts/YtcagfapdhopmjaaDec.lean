/-
  What glyph.head and glyph.Decode answer, for every text and every place.
-/
import Derived.Test.YtcagfapdhopmjaaPure
import Derived.Test.YtcagfapdhopmjaaProg
import Derived.WalkKit
import Derived.WalkSpells
import Derived.WalkLawsBesides
namespace Go.Proofs.Ytcagfapdhopmjaa
open Go.RowKit Go.Lib

theorem hide {p : Prop} (h : p) : Hid p := h
theorem unhide {p : Prop} (h : Hid p) : p := h

theorem ret3 {a a' b b' c c' : Int} {k l m : IntKind} (h : a = a') (h2 : b = b') (h3 : c = c') : Ending.returned (.tuple #[.int k a, .int l b, .int m c]) = .returned (.tuple #[.int k a', .int l b', .int m c']) := by rw [h, h2, h3]

set_option maxHeartbeats 400000 in
theorem head_any (b : Nat) (w : World) (hb : b < 256) :
    Calls Try.prog 44 #[.int .u8 b] w fun e w' => e = .returned (.tuple #[.int .i64 (hW b : Nat), .int .u8 (hLo b : Nat), .int .u8 (hHi b : Nat)]) ∧ w = w' := by
  have hc : b ≤ 127 ∨ (127 < b ∧ b ≤ 193) ∨ (193 < b ∧ b ≤ 223) ∨ b = 224 ∨ b = 237 ∨ (224 < b ∧ b < 237) ∨ (237 < b ∧ b ≤ 239) ∨ b = 240 ∨ (240 < b ∧ b ≤ 243) ∨ b = 244 ∨ 244 < b := by omega
  rcases hc with h | ⟨h, h'⟩ | ⟨h, h'⟩ | h | h | ⟨h, h'⟩ | ⟨h, h'⟩ | h | ⟨h, h'⟩ | h | h
  all_goals (try subst h)
  all_goals
    go_enter Try.func44, Try.ntmps44
    go_wp2
    go_ret3
    exact ⟨ret3 (by unfold hW; (repeat' split) <;> omega) (by unfold hLo; (repeat' split) <;> omega) (by unfold hHi; (repeat' split) <;> omega), rfl⟩

set_option maxHeartbeats 400000 in
theorem decode_out (s : ByteArray) (at_ : Int) (w : World) (hs : s.size ≤ maxLen) (h : at_ < 0 ∨ s.size ≤ at_) :
    Calls Try.prog 34 #[.string s, .int .i64 at_] w fun e w' => e = .returned (.tuple #[.int .i32 0, .int .i64 0, .bool false]) ∧ w = w' := by
  unfold maxLen at hs
  rcases h with h | h
  · go_enter Try.func34, Try.ntmps34
    go_wp2
    go_ret3
    exact ⟨rfl, rfl⟩
  · have h' : ¬ at_ < 0 := by omega
    go_enter Try.func34, Try.ntmps34
    go_wp2
    go_ret3
    exact ⟨rfl, rfl⟩

set_option maxHeartbeats 400000 in
theorem decode_one (s : ByteArray) (k : Nat) (w : World) (hs : s.size ≤ maxLen) (hk : k < s.size) (h1 : by_ s k ≤ 127) :
    Calls Try.prog 34 #[.string s, .int .i64 k] w fun e w' => e = .returned (.tuple #[.int .i32 (by_ s k : Nat), .int .i64 1, .bool true]) ∧ w = w' := by
  unfold maxLen at hs
  have hb := by_get s k hk
  have hl := by_lt s k
  have hw : hW (by_ s k) = 1 := by unfold hW; rw [if_pos h1]
  go_enter Try.func34, Try.ntmps34
  go_wp2_with (go_at_call 44; refine (head_any _ _ (by_lt s k)).mono ?_; rintro e w' ⟨rfl, rfl⟩; rw [hw])
  go_ret3
  exact ⟨rfl, rfl⟩

set_option maxHeartbeats 400000 in
theorem decode_bad (s : ByteArray) (k : Nat) (w : World) (hs : s.size ≤ maxLen) (hk : k < s.size) (h1 : hW (by_ s k) = 0 ∨ s.size - k < hW (by_ s k)) :
    Calls Try.prog 34 #[.string s, .int .i64 k] w fun e w' => e = .returned (.tuple #[.int .i32 65533, .int .i64 1, .bool false]) ∧ w = w' := by
  unfold maxLen at hs
  have hb := by_get s k hk
  have hl := by_lt s k
  have hl4 := hW_le (by_ s k)
  rcases h1 with h1 | h1
  · go_enter Try.func34, Try.ntmps34
    go_wp2_with (go_at_call 44; refine (head_any _ _ (by_lt s k)).mono ?_; rintro e w' ⟨rfl, rfl⟩; rw [h1])
    go_ret3
    exact ⟨rfl, rfl⟩
  · have h0 : ((hW (by_ s k) : Int) == 0) = false := by
      rw [beq_eq_false_iff_ne]; omega
    go_enter Try.func34, Try.ntmps34
    go_wp2_with (go_at_call 44; refine (head_any _ _ (by_lt s k)).mono ?_; rintro e w' ⟨rfl, rfl⟩)
    go_ret3
    exact ⟨rfl, rfl⟩

theorem ret_dec {s : ByteArray} {k : Nat} {a b : Int} {o : Bool} {r n : Nat} (h : Utf8.decode s k = (r, n)) (ha : a = r) (hb : b = n) (ho : okR s k = o) :
    Ending.returned (.tuple #[.int .i32 a, .int .i64 b, .bool o]) = .returned (.tuple #[.int .i32 (rn s k : Nat), .int .i64 (wd s k : Nat), .bool (okR s k)]) := by
  rw [ha, hb, ← ho, rn_of h, wd_of h]

end Go.Proofs.Ytcagfapdhopmjaa
