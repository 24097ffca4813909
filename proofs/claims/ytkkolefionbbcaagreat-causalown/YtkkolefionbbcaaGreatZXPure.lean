/-
  Plain facts on UTF-8, by numbers: what a first byte says, and that the model's decoding of a text at a place is the one of the table of first bytes.
-/
import GoSem.Core.Utf8
import Derived.Lib.DecodeN
import Derived.Lib.DecodeNEq
import Derived.Test.YtkkolefionbbcaaGreatProg
import Derived.WalkKit
import Derived.WalkSpells
import Derived.WalkLawsBesides
import Derived.RangeFuncBox
import Derived.RangeFuncNested
import Derived.RangeFuncBound
import Derived.RangeFuncCalls
import Derived.RangeFuncLeaves
import Derived.Shelf.Abstract
import Derived.Shelf.RegionOpen
import Derived.OwnWalkIn
import Derived.TacticsInMore
import Derived.LoopNIn
import Derived.LoopIn
import Derived.Lib.OthersKept

set_option linter.unusedVariables false
namespace Go.Proofs.YtkkolefionbbcaaGreat
open Go.Lib

/-- the rune at a place, its width, whether it is one -/
def rn (s : ByteArray) (i : Nat) : Nat := (Utf8.decode s i).1
def wd (s : ByteArray) (i : Nat) : Nat := (Utf8.decode s i).2
def okR (s : ByteArray) (i : Nat) : Bool := !(rn s i == 65533 && wd s i == 1)
def by_ (s : ByteArray) (i : Nat) : Nat := (s.get! i).toNat

theorem by_lt (s : ByteArray) (i : Nat) : by_ s i < 256 := (s.get! i).toNat_lt

theorem by_get (s : ByteArray) (i : Nat) (h : i < s.size) : (s[i]'h).toNat = by_ s i := by
  unfold by_
  simp [ByteArray.get!, getElem!_pos, h]
  rfl

/-- what a first byte says: width, from, to -/
def hW (b : Nat) : Nat := if b ≤ 127 then 1 else if b ≤ 193 then 0 else if b ≤ 223 then 2 else if b ≤ 239 then 3 else if b ≤ 244 then 4 else 0
def hLo (b : Nat) : Nat := if b ≤ 127 then 128 else if b ≤ 193 then 0 else if b = 224 then 160 else if b = 240 then 144 else if b ≤ 244 then 128 else 0
def hHi (b : Nat) : Nat := if b ≤ 127 then 191 else if b ≤ 193 then 0 else if b = 237 then 159 else if b = 244 then 143 else if b ≤ 244 then 191 else 0

theorem dec_eq (s : ByteArray) (i : Nat) : Utf8.decode s i = decodeN (s.size - i) (by_ s i) (by_ s (i + 1)) (by_ s (i + 2)) (by_ s (i + 3)) := decode_at s i

theorem dec_one (s : ByteArray) (i : Nat) (h : by_ s i ≤ 127) : Utf8.decode s i = (by_ s i, 1) := by
  rw [dec_eq]; unfold decodeN; rw [if_pos (by omega)]

theorem hW_slow (n b0 b1 b2 b3 : Nat) (hn : 1 ≤ n) (h1 : b1 < 256) (h2 : b2 < 256) (h3 : b3 < 256) (hw : 2 ≤ hW b0) :
    slowN n b0 b1 b2 b3 (hW b0) (hLo b0) (hHi b0) = decodeN n b0 b1 b2 b3 := by
  have hc : (194 ≤ b0 ∧ b0 < 224) ∨ b0 = 224 ∨ ((225 ≤ b0 ∧ b0 < 237) ∨ (238 ≤ b0 ∧ b0 < 240)) ∨ b0 = 237 ∨ b0 = 240 ∨ (241 ≤ b0 ∧ b0 < 244) ∨ b0 = 244 := by
    unfold hW at hw; split at hw <;> (try split at hw) <;> (try split at hw) <;> (try split at hw) <;> (try split at hw) <;> omega
  rcases hc with h | h | h | h | h | h | h
  · rw [show hW b0 = 2 by unfold hW; rw [if_neg (by omega), if_neg (by omega), if_pos (by omega)], show hLo b0 = 128 by unfold hLo; rw [if_neg (by omega), if_neg (by omega), if_neg (by omega), if_neg (by omega), if_pos (by omega)], show hHi b0 = 191 by unfold hHi; rw [if_neg (by omega), if_neg (by omega), if_neg (by omega), if_neg (by omega), if_pos (by omega)]]
    exact slow_C2 n b0 b1 b2 b3 hn h1 h2 h3 h
  · subst h; exact slow_E0 n 224 b1 b2 b3 hn h1 h2 h3 rfl
  · rw [show hW b0 = 3 by unfold hW; rw [if_neg (by omega), if_neg (by omega), if_neg (by omega), if_pos (by omega)], show hLo b0 = 128 by unfold hLo; rw [if_neg (by omega), if_neg (by omega), if_neg (by omega), if_neg (by omega), if_pos (by omega)], show hHi b0 = 191 by unfold hHi; rw [if_neg (by omega), if_neg (by omega), if_neg (by omega), if_neg (by omega), if_pos (by omega)]]
    exact slow_E1 n b0 b1 b2 b3 hn h1 h2 h3 h
  · subst h; exact slow_ED n 237 b1 b2 b3 hn h1 h2 h3 rfl
  · subst h; exact slow_F0 n 240 b1 b2 b3 hn h1 h2 h3 rfl
  · rw [show hW b0 = 4 by unfold hW; rw [if_neg (by omega), if_neg (by omega), if_neg (by omega), if_neg (by omega), if_pos (by omega)], show hLo b0 = 128 by unfold hLo; rw [if_neg (by omega), if_neg (by omega), if_neg (by omega), if_neg (by omega), if_pos (by omega)], show hHi b0 = 191 by unfold hHi; rw [if_neg (by omega), if_neg (by omega), if_neg (by omega), if_neg (by omega), if_pos (by omega)]]
    exact slow_F1 n b0 b1 b2 b3 hn h1 h2 h3 h
  · subst h; exact slow_F4 n 244 b1 b2 b3 hn h1 h2 h3 rfl

theorem hW_bad (n b0 b1 b2 b3 : Nat) (h0 : b0 < 256) (hw : hW b0 = 0) : decodeN n b0 b1 b2 b3 = (65533, 1) := by
  refine bad_eq n b0 b1 b2 b3 h0 ?_
  unfold hW at hw
  unfold firstT
  repeat' split at hw
  all_goals first | omega | (repeat' split) <;> omega

theorem dec_bad (s : ByteArray) (i : Nat) (hw : hW (by_ s i) = 0) : Utf8.decode s i = (65533, 1) := by
  rw [dec_eq]; exact hW_bad _ _ _ _ _ (by_lt s i) hw

theorem dec_slow (s : ByteArray) (i : Nat) (hi : i < s.size) (hw : 2 ≤ hW (by_ s i)) :
    Utf8.decode s i = slowN (s.size - i) (by_ s i) (by_ s (i + 1)) (by_ s (i + 2)) (by_ s (i + 3)) (hW (by_ s i)) (hLo (by_ s i)) (hHi (by_ s i)) := by
  rw [dec_eq]; exact (hW_slow _ _ _ _ _ (by omega) (by_lt s _) (by_lt s _) (by_lt s _) hw).symm

theorem hW_le (b : Nat) : hW b ≤ 4 := by unfold hW; (repeat' split) <;> omega
theorem hLo_lt (b : Nat) : hLo b ≤ 255 := by unfold hLo; (repeat' split) <;> omega
theorem hHi_lt (b : Nat) : hHi b ≤ 255 := by unfold hHi; (repeat' split) <;> omega

/-- the second byte fits; the third; the fourth -/
def g1 (s : ByteArray) (k : Nat) : Prop := hLo (by_ s k) ≤ by_ s (k + 1) ∧ by_ s (k + 1) ≤ hHi (by_ s k)
def g2 (s : ByteArray) (k : Nat) : Prop := 128 ≤ by_ s (k + 2) ∧ by_ s (k + 2) ≤ 191
def g3 (s : ByteArray) (k : Nat) : Prop := 128 ≤ by_ s (k + 3) ∧ by_ s (k + 3) ≤ 191

theorem dec_short (s : ByteArray) (k : Nat) (hk : k < s.size) (hw : s.size - k < hW (by_ s k)) : Utf8.decode s k = (65533, 1) := by
  rw [dec_slow s k hk (by omega)]; unfold slowN; rw [if_pos hw]
theorem dec_no1 (s : ByteArray) (k : Nat) (hk : k < s.size) (hw : 2 ≤ hW (by_ s k)) (h : ¬ g1 s k) : Utf8.decode s k = (65533, 1) := by
  unfold g1 at h
  rw [dec_slow s k hk hw]; unfold slowN; split
  · rfl
  · rw [if_pos (by omega)]
theorem dec_no2 (s : ByteArray) (k : Nat) (hk : k < s.size) (hw : 3 ≤ hW (by_ s k)) (h : ¬ g2 s k) : Utf8.decode s k = (65533, 1) := by
  unfold g2 at h
  rw [dec_slow s k hk (by omega)]; unfold slowN; split
  · rfl
  · split
    · rfl
    · rw [if_neg (by omega), if_pos (by omega)]
theorem dec_no3 (s : ByteArray) (k : Nat) (hk : k < s.size) (hw : hW (by_ s k) = 4) (h : ¬ g3 s k) : Utf8.decode s k = (65533, 1) := by
  unfold g3 at h
  rw [dec_slow s k hk (by omega)]; unfold slowN; split
  · rfl
  · split
    · rfl
    · rw [if_neg (by omega)]; split
      · rfl
      · rw [if_neg (by omega), if_pos (by omega)]
theorem dec_two (s : ByteArray) (k : Nat) (hk : k < s.size) (hw : hW (by_ s k) = 2) (hn : k + 2 ≤ s.size) (h1 : g1 s k) : Utf8.decode s k = (by_ s k % 32 * 64 + by_ s (k + 1) % 64, 2) := by
  unfold g1 at h1
  rw [dec_slow s k hk (by omega)]; unfold slowN; rw [if_neg (by omega), if_neg (by omega), if_pos (by omega)]
theorem dec_three (s : ByteArray) (k : Nat) (hk : k < s.size) (hw : hW (by_ s k) = 3) (hn : k + 3 ≤ s.size) (h1 : g1 s k) (h2 : g2 s k) : Utf8.decode s k = (by_ s k % 16 * 4096 + by_ s (k + 1) % 64 * 64 + by_ s (k + 2) % 64, 3) := by
  unfold g1 at h1; unfold g2 at h2
  rw [dec_slow s k hk (by omega)]; unfold slowN; rw [if_neg (by omega), if_neg (by omega), if_neg (by omega), if_neg (by omega), if_pos (by omega)]
theorem dec_four (s : ByteArray) (k : Nat) (hk : k < s.size) (hw : hW (by_ s k) = 4) (hn : k + 4 ≤ s.size) (h1 : g1 s k) (h2 : g2 s k) (h3 : g3 s k) : Utf8.decode s k = (by_ s k % 8 * 262144 + by_ s (k + 1) % 64 * 4096 + by_ s (k + 2) % 64 * 64 + by_ s (k + 3) % 64, 4) := by
  unfold g1 at h1; unfold g2 at h2; unfold g3 at h3
  rw [dec_slow s k hk (by omega)]; unfold slowN; rw [if_neg (by omega), if_neg (by omega), if_neg (by omega), if_neg (by omega), if_neg (by omega), if_neg (by omega)]

theorem rn_of {s : ByteArray} {k r n : Nat} (h : Utf8.decode s k = (r, n)) : rn s k = r := by unfold rn; rw [h]
theorem wd_of {s : ByteArray} {k r n : Nat} (h : Utf8.decode s k = (r, n)) : wd s k = n := by unfold wd; rw [h]
theorem ok_bad {s : ByteArray} {k : Nat} (h : Utf8.decode s k = (65533, 1)) : okR s k = false := by unfold okR; rw [rn_of h, wd_of h]; rfl
theorem ok_wide {s : ByteArray} {k r n : Nat} (h : Utf8.decode s k = (r, n)) (hn : n ≠ 1) : okR s k = true := by unfold okR; rw [rn_of h, wd_of h]; simp [hn]
theorem ok_one {s : ByteArray} {k r : Nat} (h : Utf8.decode s k = (r, 1)) (hr : r ≠ 65533) : okR s k = true := by unfold okR; rw [rn_of h, wd_of h]; simp [hr]

end Go.Proofs.YtkkolefionbbcaaGreat

/-
  Plain facts: a piece has a byte at least; what is no rune is the rune fffd with one byte.
-/
namespace Go.Proofs.YtkkolefionbbcaaGreat
open Go.Lib

theorem wd_pos (s : ByteArray) (k : Nat) (hk : k < s.size) : 1 ≤ wd s k := by
  have h4 := hW_le (by_ s k)
  by_cases h1 : by_ s k ≤ 127
  · rw [wd_of (dec_one s k h1)]; decide
  · by_cases h0 : hW (by_ s k) = 0
    · rw [wd_of (dec_bad s k h0)]; decide
    · by_cases hn : s.size - k < hW (by_ s k)
      · rw [wd_of (dec_short s k hk hn)]; decide
      · have hne : hW (by_ s k) ≠ 1 := by unfold hW; (repeat' split) <;> omega
        by_cases hg1 : g1 s k
        · rcases (by omega : hW (by_ s k) = 2 ∨ hW (by_ s k) = 3 ∨ hW (by_ s k) = 4) with hc | hc | hc
          · rw [wd_of (dec_two s k hk hc (by omega) hg1)]; decide
          · by_cases hg2 : g2 s k
            · rw [wd_of (dec_three s k hk hc (by omega) hg1 hg2)]; decide
            · rw [wd_of (dec_no2 s k hk (by omega) hg2)]; decide
          · by_cases hg2 : g2 s k
            · by_cases hg3 : g3 s k
              · rw [wd_of (dec_four s k hk hc (by omega) hg1 hg2 hg3)]; decide
              · rw [wd_of (dec_no3 s k hk hc hg3)]; decide
            · rw [wd_of (dec_no2 s k hk (by omega) hg2)]; decide
        · rw [wd_of (dec_no1 s k hk (by omega) hg1)]; decide

theorem ok_false_iff {s : ByteArray} {k : Nat} (h : okR s k = false) : rn s k = 65533 ∧ wd s k = 1 := by
  unfold okR at h
  simpa using h

end Go.Proofs.YtkkolefionbbcaaGreat

/-
  What glyph.head and glyph.Decode answer, for every text and every place.
-/
namespace Go.Proofs.YtkkolefionbbcaaGreat
open Go.RowKit Go.Lib

theorem hide {p : Prop} (h : p) : Hid p := h
theorem unhide {p : Prop} (h : Hid p) : p := h

theorem ret3 {a a' b b' c c' : Int} {k l m : IntKind} (h : a = a') (h2 : b = b') (h3 : c = c') : Ending.returned (.tuple #[.int k a, .int l b, .int m c]) = .returned (.tuple #[.int k a', .int l b', .int m c']) := by rw [h, h2, h3]

set_option maxHeartbeats 400000 in
theorem head_any (b : Nat) (w : World) (hb : b < 256) :
    Calls Tryz.prog 152 #[.int .u8 b] w fun e w' => e = .returned (.tuple #[.int .i64 (hW b : Nat), .int .u8 (hLo b : Nat), .int .u8 (hHi b : Nat)]) ∧ w = w' := by
  have hc : b ≤ 127 ∨ (127 < b ∧ b ≤ 193) ∨ (193 < b ∧ b ≤ 223) ∨ b = 224 ∨ b = 237 ∨ (224 < b ∧ b < 237) ∨ (237 < b ∧ b ≤ 239) ∨ b = 240 ∨ (240 < b ∧ b ≤ 243) ∨ b = 244 ∨ 244 < b := by omega
  rcases hc with h | ⟨h, h'⟩ | ⟨h, h'⟩ | h | h | ⟨h, h'⟩ | ⟨h, h'⟩ | h | ⟨h, h'⟩ | h | h
  all_goals (try subst h)
  all_goals
    go_enter Tryz.func152, Tryz.ntmps152
    go_wp2
    go_ret3
    exact ⟨ret3 (by unfold hW; (repeat' split) <;> omega) (by unfold hLo; (repeat' split) <;> omega) (by unfold hHi; (repeat' split) <;> omega), rfl⟩

set_option maxHeartbeats 400000 in
theorem decode_out (s : ByteArray) (at_ : Int) (w : World) (hs : s.size ≤ maxLen) (h : at_ < 0 ∨ s.size ≤ at_) :
    Calls Tryz.prog 148 #[.string s, .int .i64 at_] w fun e w' => e = .returned (.tuple #[.int .i32 0, .int .i64 0, .bool false]) ∧ w = w' := by
  unfold maxLen at hs
  rcases h with h | h
  · go_enter Tryz.func148, Tryz.ntmps148
    go_wp2
    go_ret3
    exact ⟨rfl, rfl⟩
  · have h' : ¬ at_ < 0 := by omega
    go_enter Tryz.func148, Tryz.ntmps148
    go_wp2
    go_ret3
    exact ⟨rfl, rfl⟩

set_option maxHeartbeats 400000 in
theorem decode_one (s : ByteArray) (k : Nat) (w : World) (hs : s.size ≤ maxLen) (hk : k < s.size) (h1 : by_ s k ≤ 127) :
    Calls Tryz.prog 148 #[.string s, .int .i64 k] w fun e w' => e = .returned (.tuple #[.int .i32 (by_ s k : Nat), .int .i64 1, .bool true]) ∧ w = w' := by
  unfold maxLen at hs
  have hb := by_get s k hk
  have hl := by_lt s k
  have hw : hW (by_ s k) = 1 := by unfold hW; rw [if_pos h1]
  go_enter Tryz.func148, Tryz.ntmps148
  go_wp2_with (go_at_call 152; refine (head_any _ _ (by_lt s k)).mono ?_; rintro e w' ⟨rfl, rfl⟩; rw [hw])
  go_ret3
  exact ⟨rfl, rfl⟩

set_option maxHeartbeats 400000 in
theorem decode_bad (s : ByteArray) (k : Nat) (w : World) (hs : s.size ≤ maxLen) (hk : k < s.size) (h1 : hW (by_ s k) = 0 ∨ s.size - k < hW (by_ s k)) :
    Calls Tryz.prog 148 #[.string s, .int .i64 k] w fun e w' => e = .returned (.tuple #[.int .i32 65533, .int .i64 1, .bool false]) ∧ w = w' := by
  unfold maxLen at hs
  have hb := by_get s k hk
  have hl := by_lt s k
  have hl4 := hW_le (by_ s k)
  rcases h1 with h1 | h1
  · go_enter Tryz.func148, Tryz.ntmps148
    go_wp2_with (go_at_call 152; refine (head_any _ _ (by_lt s k)).mono ?_; rintro e w' ⟨rfl, rfl⟩; rw [h1])
    go_ret3
    exact ⟨rfl, rfl⟩
  · have h0 : ((hW (by_ s k) : Int) == 0) = false := by
      rw [beq_eq_false_iff_ne]; omega
    go_enter Tryz.func148, Tryz.ntmps148
    go_wp2_with (go_at_call 152; refine (head_any _ _ (by_lt s k)).mono ?_; rintro e w' ⟨rfl, rfl⟩)
    go_ret3
    exact ⟨rfl, rfl⟩

theorem ret_dec {s : ByteArray} {k : Nat} {a b : Int} {o : Bool} {r n : Nat} (h : Utf8.decode s k = (r, n)) (ha : a = r) (hb : b = n) (ho : okR s k = o) :
    Ending.returned (.tuple #[.int .i32 a, .int .i64 b, .bool o]) = .returned (.tuple #[.int .i32 (rn s k : Nat), .int .i64 (wd s k : Nat), .bool (okR s k)]) := by
  rw [ha, hb, ← ho, rn_of h, wd_of h]

end Go.Proofs.YtkkolefionbbcaaGreat

/-
  glyph.Decode at a first byte of 2 bytes.
-/
namespace Go.Proofs.YtkkolefionbbcaaGreat
open Go.RowKit Go.Lib

set_option maxHeartbeats 1000000 in
theorem decode_two (s : ByteArray) (k : Nat) (w : World) (hs : s.size ≤ maxLen) (hk : k < s.size) (hW2 : hW (by_ s k) = 2) (hn : k + 2 ≤ s.size) :
    Calls Tryz.prog 148 #[.string s, .int .i64 k] w fun e w' => e = .returned (.tuple #[.int .i32 (rn s k : Nat), .int .i64 (wd s k : Nat), .bool (okR s k)]) ∧ w = w' := by
  unfold maxLen at hs
  have hb := by_get s k hk
  have hl := by_lt s k
  have hb1 := by_get s (k + 1) (by omega)
  have hl1 := by_lt s (k + 1)
  go_enter Tryz.func148, Tryz.ntmps148
  go_wp2_with (go_at_call 152; refine (head_any _ _ (by_lt s k)).mono ?_; rintro e w' ⟨rfl, rfl⟩; rw [hW2])
  go_loop [9, 10, 11, 12] (fun lo hi r i => (i = .int .i64 ((k : Int) + 1) ∧ lo = .int .u8 (hLo (by_ s k) : Nat) ∧ hi = .int .u8 (hHi (by_ s k) : Nat) ∧ r = .int .i32 ((by_ s k : Int) % 32)) ∨ (g1 s k ∧ i = .int .i64 ((k : Int) + 2) ∧ r = .int .i32 ((by_ s k : Int) % 32 * 64 + (by_ s (k + 1) : Int) % 64))) (fun _ _ _ i => k + 2 - (intOf i).toNat)
  case atStart => exact .inl ⟨rfl, rfl, rfl, rfl⟩
  case round =>
    rcases hrel with ⟨rfl, rfl, rfl, rfl⟩ | ⟨G1, rfl, rfl⟩
    · by_cases hg : hLo (by_ s k) ≤ by_ s (k + 1) ∧ by_ s (k + 1) ≤ hHi (by_ s k)
      · obtain ⟨hg1, hg2⟩ := hg
        go_wp2
        go_round
        case rel => exact .inr (⟨⟨hg1, hg2⟩, by go_num, rfl⟩)
        case measure => simp [intOf]; omega
      · have hd := dec_no1 s k hk (by omega) hg
        have Hd := hide hd
        clear hd
        by_cases hg1 : hLo (by_ s k) ≤ by_ s (k + 1)
        all_goals
          go_wp2
          go_ret3
          exact ⟨ret_dec (unhide Hd) rfl rfl (ok_bad (unhide Hd)), rfl⟩
    · have hd := dec_two s k hk hW2 hn G1
      have Hd := hide hd
      clear hd
      go_wp2
      go_ret3
      exact ⟨ret_dec (unhide Hd) (by omega) rfl (ok_wide (unhide Hd) (by decide)), rfl⟩

end Go.Proofs.YtkkolefionbbcaaGreat

/-
  glyph.Decode at a first byte of 3 bytes.
-/
namespace Go.Proofs.YtkkolefionbbcaaGreat
open Go.RowKit Go.Lib

set_option maxHeartbeats 1000000 in
theorem decode_three (s : ByteArray) (k : Nat) (w : World) (hs : s.size ≤ maxLen) (hk : k < s.size) (hW2 : hW (by_ s k) = 3) (hn : k + 3 ≤ s.size) :
    Calls Tryz.prog 148 #[.string s, .int .i64 k] w fun e w' => e = .returned (.tuple #[.int .i32 (rn s k : Nat), .int .i64 (wd s k : Nat), .bool (okR s k)]) ∧ w = w' := by
  unfold maxLen at hs
  have hb := by_get s k hk
  have hl := by_lt s k
  have hb1 := by_get s (k + 1) (by omega)
  have hl1 := by_lt s (k + 1)
  have hb2 := by_get s (k + 2) (by omega)
  have hl2 := by_lt s (k + 2)
  go_enter Tryz.func148, Tryz.ntmps148
  go_wp2_with (go_at_call 152; refine (head_any _ _ (by_lt s k)).mono ?_; rintro e w' ⟨rfl, rfl⟩; rw [hW2])
  go_loop [9, 10, 11, 12] (fun lo hi r i => (i = .int .i64 ((k : Int) + 1) ∧ lo = .int .u8 (hLo (by_ s k) : Nat) ∧ hi = .int .u8 (hHi (by_ s k) : Nat) ∧ r = .int .i32 ((by_ s k : Int) % 16)) ∨ (g1 s k ∧ i = .int .i64 ((k : Int) + 2) ∧ lo = .int .u8 128 ∧ hi = .int .u8 191 ∧ r = .int .i32 ((by_ s k : Int) % 16 * 64 + (by_ s (k + 1) : Int) % 64)) ∨ (g1 s k ∧ g2 s k ∧ i = .int .i64 ((k : Int) + 3) ∧ r = .int .i32 (((by_ s k : Int) % 16 * 64 + (by_ s (k + 1) : Int) % 64) * 64 + (by_ s (k + 2) : Int) % 64))) (fun _ _ _ i => k + 3 - (intOf i).toNat)
  case atStart => exact .inl ⟨rfl, rfl, rfl, rfl⟩
  case round =>
    rcases hrel with ⟨rfl, rfl, rfl, rfl⟩ | ⟨G1, rfl, rfl, rfl, rfl⟩ | ⟨G1, G2, rfl, rfl⟩
    · by_cases hg : hLo (by_ s k) ≤ by_ s (k + 1) ∧ by_ s (k + 1) ≤ hHi (by_ s k)
      · obtain ⟨hg1, hg2⟩ := hg
        go_wp2
        go_round
        case rel => exact .inr (.inl ⟨⟨hg1, hg2⟩, by go_num, rfl, rfl, rfl⟩)
        case measure => simp [intOf]; omega
      · have hd := dec_no1 s k hk (by omega) hg
        have Hd := hide hd
        clear hd
        by_cases hg1 : hLo (by_ s k) ≤ by_ s (k + 1)
        all_goals
          go_wp2
          go_ret3
          exact ⟨ret_dec (unhide Hd) rfl rfl (ok_bad (unhide Hd)), rfl⟩
    · by_cases hg : 128 ≤ by_ s (k + 2) ∧ by_ s (k + 2) ≤ 191
      · obtain ⟨hg1, hg2⟩ := hg
        go_wp2
        go_round
        case rel => exact .inr (.inr (⟨G1, ⟨hg1, hg2⟩, by go_num, rfl⟩))
        case measure => simp [intOf]; omega
      · have hd := dec_no2 s k hk (by omega) hg
        have Hd := hide hd
        clear hd
        by_cases hg1 : 128 ≤ by_ s (k + 2)
        all_goals
          go_wp2
          go_ret3
          exact ⟨ret_dec (unhide Hd) rfl rfl (ok_bad (unhide Hd)), rfl⟩
    · have hd := dec_three s k hk hW2 hn G1 G2
      have Hd := hide hd
      clear hd
      go_wp2
      go_ret3
      exact ⟨ret_dec (unhide Hd) (by omega) rfl (ok_wide (unhide Hd) (by decide)), rfl⟩

end Go.Proofs.YtkkolefionbbcaaGreat

/-
  glyph.Decode at a first byte of 4 bytes.
-/
namespace Go.Proofs.YtkkolefionbbcaaGreat
open Go.RowKit Go.Lib

set_option maxHeartbeats 1000000 in
theorem decode_four (s : ByteArray) (k : Nat) (w : World) (hs : s.size ≤ maxLen) (hk : k < s.size) (hW2 : hW (by_ s k) = 4) (hn : k + 4 ≤ s.size) :
    Calls Tryz.prog 148 #[.string s, .int .i64 k] w fun e w' => e = .returned (.tuple #[.int .i32 (rn s k : Nat), .int .i64 (wd s k : Nat), .bool (okR s k)]) ∧ w = w' := by
  unfold maxLen at hs
  have hb := by_get s k hk
  have hl := by_lt s k
  have hb1 := by_get s (k + 1) (by omega)
  have hl1 := by_lt s (k + 1)
  have hb2 := by_get s (k + 2) (by omega)
  have hl2 := by_lt s (k + 2)
  have hb3 := by_get s (k + 3) (by omega)
  have hl3 := by_lt s (k + 3)
  go_enter Tryz.func148, Tryz.ntmps148
  go_wp2_with (go_at_call 152; refine (head_any _ _ (by_lt s k)).mono ?_; rintro e w' ⟨rfl, rfl⟩; rw [hW2])
  go_loop [9, 10, 11, 12] (fun lo hi r i => (i = .int .i64 ((k : Int) + 1) ∧ lo = .int .u8 (hLo (by_ s k) : Nat) ∧ hi = .int .u8 (hHi (by_ s k) : Nat) ∧ r = .int .i32 ((by_ s k : Int) % 8)) ∨ (g1 s k ∧ i = .int .i64 ((k : Int) + 2) ∧ lo = .int .u8 128 ∧ hi = .int .u8 191 ∧ r = .int .i32 ((by_ s k : Int) % 8 * 64 + (by_ s (k + 1) : Int) % 64)) ∨ (g1 s k ∧ g2 s k ∧ i = .int .i64 ((k : Int) + 3) ∧ lo = .int .u8 128 ∧ hi = .int .u8 191 ∧ r = .int .i32 (((by_ s k : Int) % 8 * 64 + (by_ s (k + 1) : Int) % 64) * 64 + (by_ s (k + 2) : Int) % 64)) ∨ (g1 s k ∧ g2 s k ∧ g3 s k ∧ i = .int .i64 ((k : Int) + 4) ∧ r = .int .i32 ((((by_ s k : Int) % 8 * 64 + (by_ s (k + 1) : Int) % 64) * 64 + (by_ s (k + 2) : Int) % 64) * 64 + (by_ s (k + 3) : Int) % 64))) (fun _ _ _ i => k + 4 - (intOf i).toNat)
  case atStart => exact .inl ⟨rfl, rfl, rfl, rfl⟩
  case round =>
    rcases hrel with ⟨rfl, rfl, rfl, rfl⟩ | ⟨G1, rfl, rfl, rfl, rfl⟩ | ⟨G1, G2, rfl, rfl, rfl, rfl⟩ | ⟨G1, G2, G3, rfl, rfl⟩
    · by_cases hg : hLo (by_ s k) ≤ by_ s (k + 1) ∧ by_ s (k + 1) ≤ hHi (by_ s k)
      · obtain ⟨hg1, hg2⟩ := hg
        go_wp2
        go_round
        case rel => exact .inr (.inl ⟨⟨hg1, hg2⟩, by go_num, rfl, rfl, rfl⟩)
        case measure => simp [intOf]; omega
      · have hd := dec_no1 s k hk (by omega) hg
        have Hd := hide hd
        clear hd
        by_cases hg1 : hLo (by_ s k) ≤ by_ s (k + 1)
        all_goals
          go_wp2
          go_ret3
          exact ⟨ret_dec (unhide Hd) rfl rfl (ok_bad (unhide Hd)), rfl⟩
    · by_cases hg : 128 ≤ by_ s (k + 2) ∧ by_ s (k + 2) ≤ 191
      · obtain ⟨hg1, hg2⟩ := hg
        go_wp2
        go_round
        case rel => exact .inr (.inr (.inl ⟨G1, ⟨hg1, hg2⟩, by go_num, rfl, rfl, rfl⟩))
        case measure => simp [intOf]; omega
      · have hd := dec_no2 s k hk (by omega) hg
        have Hd := hide hd
        clear hd
        by_cases hg1 : 128 ≤ by_ s (k + 2)
        all_goals
          go_wp2
          go_ret3
          exact ⟨ret_dec (unhide Hd) rfl rfl (ok_bad (unhide Hd)), rfl⟩
    · by_cases hg : 128 ≤ by_ s (k + 3) ∧ by_ s (k + 3) ≤ 191
      · obtain ⟨hg1, hg2⟩ := hg
        go_wp2
        go_round
        case rel => exact .inr (.inr (.inr (⟨G1, G2, ⟨hg1, hg2⟩, by go_num, rfl⟩)))
        case measure => simp [intOf]; omega
      · have hd := dec_no3 s k hk (by omega) hg
        have Hd := hide hd
        clear hd
        by_cases hg1 : 128 ≤ by_ s (k + 3)
        all_goals
          go_wp2
          go_ret3
          exact ⟨ret_dec (unhide Hd) rfl rfl (ok_bad (unhide Hd)), rfl⟩
    · have hd := dec_four s k hk hW2 hn G1 G2 G3
      have Hd := hide hd
      clear hd
      go_wp2
      go_ret3
      exact ⟨ret_dec (unhide Hd) (by omega) rfl (ok_wide (unhide Hd) (by decide)), rfl⟩

end Go.Proofs.YtkkolefionbbcaaGreat

/-
  glyph.Decode at every text and every place of it.
-/
namespace Go.Proofs.YtkkolefionbbcaaGreat
open Go.RowKit Go.Lib

/-- glyph.Decode, at every place of a text. -/
theorem decode_in (s : ByteArray) (k : Nat) (w : World) (hs : s.size ≤ maxLen) (hk : k < s.size) :
    Calls Tryz.prog 148 #[.string s, .int .i64 k] w fun e w' => e = .returned (.tuple #[.int .i32 (rn s k : Nat), .int .i64 (wd s k : Nat), .bool (okR s k)]) ∧ w = w' := by
  have h4 := hW_le (by_ s k)
  by_cases h1 : by_ s k ≤ 127
  · refine (decode_one s k w hs hk h1).mono ?_
    rintro e w' ⟨rfl, rfl⟩
    have hd := dec_one s k h1
    exact ⟨ret_dec hd rfl rfl (ok_one hd (by omega)), rfl⟩
  · by_cases h0 : hW (by_ s k) = 0
    · refine (decode_bad s k w hs hk (.inl h0)).mono ?_
      rintro e w' ⟨rfl, rfl⟩
      have hd := dec_bad s k h0
      exact ⟨ret_dec hd rfl rfl (ok_bad hd), rfl⟩
    · by_cases hn : s.size - k < hW (by_ s k)
      · refine (decode_bad s k w hs hk (.inr hn)).mono ?_
        rintro e w' ⟨rfl, rfl⟩
        have hd := dec_short s k hk hn
        exact ⟨ret_dec hd rfl rfl (ok_bad hd), rfl⟩
      · have hne : hW (by_ s k) ≠ 1 := by unfold hW; (repeat' split) <;> omega
        have hc : hW (by_ s k) = 2 ∨ hW (by_ s k) = 3 ∨ hW (by_ s k) = 4 := by omega
        rcases hc with hc | hc | hc
        · exact decode_two s k w hs hk hc (by omega)
        · exact decode_three s k w hs hk hc (by omega)
        · exact decode_four s k w hs hk hc (by omega)

/-- what Decode answers at any number -/
def dR (s : ByteArray) (a : Int) : Int := if 0 ≤ a ∧ a < s.size then (rn s a.toNat : Int) else 0
def dN (s : ByteArray) (a : Int) : Int := if 0 ≤ a ∧ a < s.size then (wd s a.toNat : Int) else 0
def dK (s : ByteArray) (a : Int) : Bool := if 0 ≤ a ∧ a < s.size then okR s a.toNat else false

/-- glyph.Decode, at every text and every number. -/
theorem decode_any (s : ByteArray) (a : Int) (w : World) (hs : s.size ≤ maxLen) :
    Calls Tryz.prog 148 #[.string s, .int .i64 a] w fun e w' => e = .returned (.tuple #[.int .i32 (dR s a), .int .i64 (dN s a), .bool (dK s a)]) ∧ w = w' := by
  unfold dR dN dK
  by_cases h : 0 ≤ a ∧ a < s.size
  · rw [if_pos h, if_pos h, if_pos h]
    obtain ⟨k, rfl⟩ := Int.eq_ofNat_of_zero_le h.1
    rw [Int.toNat_natCast]
    exact decode_in s k w hs (by omega)
  · rw [if_neg h, if_neg h, if_neg h]
    exact decode_out s a w hs (by omega)

theorem dR_in (s : ByteArray) (k : Nat) (h : k < s.size) : dR s (k : Int) = rn s k := by unfold dR; rw [if_pos (by omega), Int.toNat_natCast]
theorem dN_in (s : ByteArray) (k : Nat) (h : k < s.size) : dN s (k : Int) = wd s k := by unfold dN; rw [if_pos (by omega), Int.toNat_natCast]
theorem dK_in (s : ByteArray) (k : Nat) (h : k < s.size) : dK s (k : Int) = okR s k := by unfold dK; rw [if_pos (by omega), Int.toNat_natCast]

end Go.Proofs.YtkkolefionbbcaaGreat

/-
  The places of a text's pieces; what glyph.All goes through when a range takes it up; glyph.Count.
-/
set_option linter.unusedSimpArgs false
set_option linter.unusedVariables false
namespace Go.Proofs.YtkkolefionbbcaaGreat
open Go.RowKit Go.Lib Go.Shelf

/-- the places of the pieces of a text, from a place on -/
def posL (s : ByteArray) : Nat → Nat → List Nat
  | 0, _ => []
  | f + 1, i => if i < s.size then i :: posL s f (i + wd s i) else []
def allL (s : ByteArray) : List Nat := posL s s.size 0

theorem posL_end (s : ByteArray) (f i : Nat) (h : ¬ i < s.size) : posL s f i = [] := by
  cases f with
  | zero => rfl
  | succ f => simp [posL, h]
theorem posL_step (s : ByteArray) (f i : Nat) (h : i < s.size) : posL s (f + 1) i = i :: posL s f (i + wd s i) := by simp [posL, h]
theorem posL_length (s : ByteArray) : ∀ f i, (posL s f i).length ≤ f
  | 0, _ => by simp [posL]
  | f + 1, i => by
    unfold posL
    split
    · have := posL_length s f (i + wd s i); simp; omega
    · simp
theorem allL_length (s : ByteArray) : (allL s).length ≤ s.size := posL_length s _ _

/-- a place of a text -/
abbrev Pl (s : ByteArray) := { i : Nat // i < s.size }

theorem iterAt_grown (w : World) (k : Nat) (s : ByteArray) (p : Nat) : w.grownBy (w.iterAt k s p) (some k) :=
  ⟨rfl, rfl, rfl, by simp [World.iterAt], fun j _ hj => iterAt_other w k j s p (fun e => hj (by rw [e]))⟩

attribute [local go_sem] Oper.semAt_some

set_option maxRecDepth 100000 in
set_option maxHeartbeats 2000000 in
/-- the closure that glyph.All hands back, under a range -/
theorem all1_in (F : Fence) (n : Nat) (h8 : F.fn 151) (hro : F.round = none) (hn : 1 ≤ n) (l Bs : Nat) (s : ByteArray) (J Jx : List (Pl s) → World → Prop)
    (W : World) (hJ : AbidesFrom W.heap.size J)
    (hY : ∀ pre x W1, J pre W1 → pre.length < (allL s).length → YieldAt F (n - 1) Tryz.prog l #[.int .i64 (x.1 : Nat), .int .i32 (rn s x.1 : Nat)] W1 fun e W' =>
      (e = .returned (.bool true) ∧ J (pre ++ [x]) W' ∧ KeepsWalks W1 W') ∨ (e = .returned (.bool false) ∧ Jx (pre ++ [x]) W'))
    (hBs : W.cell? ⟨Bs, 0, none⟩ = some (.string s)) (h0 : J [] W) :
    CallsIn F n Tryz.prog 151 #[.func (.yield l) #[] #[], .pointer (some ⟨Bs, 0, none⟩)] W fun e W' => (∃ v, e = .returned v) ∧
      ((∃ ys : List (Pl s), ys.map (·.1) = allL s ∧ J ys W') ∨ (∃ pre : List (Pl s), (∃ rest, pre.map (·.1) ++ rest = allL s) ∧ Jx pre W')) := by
  refine callsIn_of_wp Tryz.func151 rfl h8 ?_ hro
  simp only [Tryz.ntmps151, List.size_toArray, List.length_cons, List.length_nil, Nat.reduceAdd, Nat.reduceSub, Array.replicate_succ, Array.replicate_zero, List.push_toArray, List.append_toArray, List.nil_append, List.cons_append]
  gi_wp2
  gi_loopw [] (fun wr => ∃ (pos f : Nat) (pre : List (Pl s)), wr.heap[W.heap.size]? = some (.stringIter s pos) ∧ Hid (pre.map (·.1) ++ posL s f pos = allL s) ∧ s.size ≤ pos + f ∧ J pre wr)
    (fun wr => s.size - wr.iterPos W.heap.size)
  case atStart =>
    exact ⟨0, s.size, [], World.iter_heap W s 0, hide rfl, by omega, hJ _ _ _ none h0 (World.grownBy_alloc W _ none) (fun r e => by cases e)⟩
  case round =>
    obtain ⟨pos, f, pre, hit, hacc, hfu, hJs⟩ := hrel
    by_cases hp : pos < s.size
    · have hnx : ∀ ty, (Instr.next (.pointer (some ⟨W.heap.size, 0, none⟩)) true ty).run Tryz.prog wr = .ok (.tuple #[.bool true, .int .i64 (pos : Nat), .int .i32 (rn s pos : Nat)]) (wr.iterAt W.heap.size s (pos + wd s pos)) := fun ty => Lib.run_next_any_at wr W.heap.size s pos ty hit hp
      have hwd := wd_pos s pos hp
      have hit2 := Lib.iterAt_heap wr W.heap.size s pos (pos + wd s pos) hit
      obtain ⟨g, rfl⟩ : ∃ g, f = g + 1 := ⟨f - 1, by omega⟩
      have hacc2 : Hid (pre.map (·.1) ++ pos :: posL s g (pos + wd s pos) = allL s) := by rw [← posL_step s g pos hp]; exact hacc
      clear hacc
      have hlen : pre.length < (allL s).length := by rw [← unhide hacc2]; simp
      have hJ2 : J pre (wr.iterAt W.heap.size s (pos + wd s pos)) := hJ _ _ _ _ hJs (iterAt_grown wr _ s _) (fun r e => by cases e; exact ⟨Nat.le_refl _, _, hit, rfl⟩)
      obtain ⟨fn, tmps, assign, body, hy, hR⟩ := hY pre ⟨pos, hp⟩ _ hJ2 hlen
      dsimp only at hy
      gi_wp2
      refine hR.mono ?_
      rintro e W3 (⟨rfl, hJ3, hk3⟩ | ⟨rfl, hJx3⟩)
      · have hit3 := hk3.same _ _ hit2 rfl
        gi_wp2
        go_roundw
        case rel => exact ⟨pos + wd s pos, g, pre ++ [⟨pos, hp⟩], hit3, hide (by rw [← unhide hacc2]; simp), by omega, hJ3⟩
        case measure =>
          simp only [World.iterPos, hit3, hit]
          omega
      · gi_wp2
        refine bodyPost_ret (results_none rfl _ _ _) rfl ?_
        exact ⟨⟨_, rfl⟩, .inr ⟨_, ⟨posL s g (pos + wd s pos), by rw [← unhide hacc2]; simp⟩, hJx3⟩⟩
    · have hnx : ∀ ty, (Instr.next (.pointer (some ⟨W.heap.size, 0, none⟩)) true ty).run Tryz.prog wr = .ok (.tuple #[.bool false]) wr := fun ty => Lib.run_next_end_at wr W.heap.size s pos ty hit hp
      gi_wp2
      go_end0
      exact ⟨⟨_, rfl⟩, .inl ⟨pre, by rw [← unhide hacc, posL_end s f pos hp]; simp, hJs⟩⟩

set_option maxHeartbeats 1000000 in
/-- glyph.All: the text is boxed; the function value captures the box -/
theorem all_in (F : Fence) (n : Nat) (h6 : F.fn 147) (hro : F.round = none) (s : ByteArray) (w : World) :
    CallsIn F n Tryz.prog 147 #[.string s] w fun e w' => e = .returned (.func (.func 151) #[] #[.pointer (some ⟨w.heap.size, 0, none⟩)]) ∧ w' = w.alloc (.cells #[.string s] 9) := by
  refine callsIn_of_wp Tryz.func147 rfl h6 ?_ hro
  simp only [Tryz.ntmps147, List.size_toArray, List.length_cons, List.length_nil, Nat.reduceAdd, Nat.reduceSub, Array.replicate_succ, Array.replicate_zero, List.push_toArray, List.append_toArray, List.nil_append, List.cons_append]
  gi_wp2
  go_ret
  exact ⟨rfl, rfl⟩

theorem all_stops (F : Fence) (n : Nat) (h8 : F.fn 151) (hro : F.round = none) (hn : 1 ≤ n) (Bs : Nat) (s : ByteArray) (w : World) (hBs : Bs < w.heap.size)
    (hc : w.cell? ⟨Bs, 0, none⟩ = some (.string s)) :
    SeqStopsK F n Tryz.prog 151 #[.pointer (some ⟨Bs, 0, none⟩)] (fun x : Pl s => #[Value.int .i64 (x.1 : Nat), Value.int .i32 (rn s x.1 : Nat)]) KeepsWalks (fun ys => ys.map (·.1) = allL s)
      (fun pre => ∃ rest, pre.map (·.1) ++ rest = allL s) (allL s).length w := fun l J Jx W hW hJ _ hY h0 =>
  all1_in F n h8 hro hn l Bs s J Jx W hJ hY ((hW.cell (p := ⟨Bs, 0, none⟩) hBs).trans hc) h0

end Go.Proofs.YtkkolefionbbcaaGreat

/-
  What glyph.Count answers: the number of a text's pieces.
-/
set_option linter.unusedSimpArgs false
set_option linter.unusedVariables false
namespace Go.Proofs.YtkkolefionbbcaaGreat
open Go.RowKit Go.Lib Go.Shelf

attribute [local go_sem] Oper.semAt_some

set_option maxRecDepth 100000 in
set_option maxHeartbeats 2000000 in
theorem count_in (s : ByteArray) (hs : s.size ≤ 140737488355328) (w : World) :
    Calls Tryz.prog 143 #[.string s] w fun e W' => e = .returned (.int .i64 ((allL s).length : Nat)) ∧ Below w.heap.size w W' := by
  refine (callsIn_wide (n := 6)).1 ?_
  have hlen := allL_length s
  refine callsIn_of_wp_marks Tryz.func143 rfl trivial ?_ rfl
  simp only [Tryz.ntmps143, List.size_toArray, List.length_cons, List.length_nil, Nat.reduceAdd, Nat.reduceSub, Array.replicate_succ, Array.replicate_zero, List.push_toArray, List.append_toArray, List.nil_append, List.cons_append]
  gi_wp2_with (refine ⟨trivial, ?_⟩; gi_at_call 147; refine (all_in Fence.wide _ trivial rfl _ _).mono ?_; rintro e w' ⟨rfl, rfl⟩)
  have bO := Boxed.new w 3 (.int .i64 0)
  have bN := Boxed.new (w.alloc (.cells #[.int .i64 0] 3)) 9 (.string s)
  rw [World.size_alloc] at bN
  have hB0 : Below w.heap.size w ((w.alloc (.cells #[.int .i64 0] 3)).alloc (.cells #[.string s] 9)) := ((Below.refl _ w).alloc (Nat.le_refl _) _).alloc (by simp) _
  refine wpIn_rangeFunc_ownG rfl (by decide) (gf := 151) (lb := #[.pointer (some ⟨w.heap.size + 1, 0, none⟩)]) rfl trivial (enters_of Tryz.func151 (by kernel_rfl) rfl)
    (all_stops Fence.wide 5 trivial rfl (by decide) (w.heap.size + 1) s _ (by simp) bN.cell) walksK_t walksK_b (Below.refl _ _) (fun _ => rfl)
    (fun pre W => Boxed W w.heap.size 3 (.int .i64 (pre.length : Nat)) ∧ Below w.heap.size w W)
    (fun _ _ _ => False)
    (OwnFrom.and (Own.from (boxed_own w.heap.size 3 (fun pre : List (Pl s) => .int .i64 (pre.length : Nat))) _) (ownFrom_below (Nat.le_refl _) (by simp; omega)))
    (fun _ _ _ _ _ hs _ _ => hs)
    ⟨bO.alloc _, hB0⟩
    (fun x => { tmps := #[.string s, undef, .int .i64 0, .pointer (some ⟨w.heap.size, 0, none⟩), .string s, .func (.func 151) #[] #[.pointer (some ⟨w.heap.size + 1, 0, none⟩)], .int .i64 (x.1 : Nat), .int .i32 (rn s x.1 : Nat), undef, undef, undef], defers := [] }) ?assign ?body ?done ?stop
  case assign =>
    intro l x W K hK
    gi_wp2
    simpa using hK
  case body =>
    rintro l pre x W ⟨hv, hB⟩ hlt
    have hc := hv.cell
    have hf := hv.frozen
    gi_wp2
    refine ⟨(KeepsOthers.setCell _ _ _).from _, KeepsWalks.setCell _ _ _, ?_, hB.setCell (p := ⟨w.heap.size, 0, none⟩) (Nat.le_refl _) _⟩
    have e1 : Value.int .i64 ((pre ++ [x]).length : Nat) = .int .i64 ((pre.length : Int) + 1) := by simp
    rw [e1]
    exact hv.set _
  case done =>
    rintro D ys W hD hys ⟨hv, hB⟩ hK
    have hc := hv.cell
    have hl : ys.length = (allL s).length := by rw [← hys]; simp
    gi_wp2
    refine ⟨by simp, .inl ⟨_, _, rfl, run_takeDeferred hK, ?_⟩⟩
    exact ⟨_, results_tmp rfl _ _ _, by rw [← hl]; rfl, hB.trans (belowK_b (w := w) (Nat.le_refl _) W D _ _ (by simp at hD; omega) hK rfl rfl)⟩
  case stop =>
    rintro D c pre W _ _ h _
    exact h.elim

end Go.Proofs.YtkkolefionbbcaaGreat

/-
  What glyph.BadAt answers: the first place that is no rune's.
-/
set_option linter.unusedSimpArgs false
set_option linter.unusedVariables false
namespace Go.Proofs.YtkkolefionbbcaaGreat
open Go.RowKit Go.Lib Go.Shelf

attribute [local go_sem] Oper.semAt_some

/-- the first place that begins no rune -/
def firstBad (s : ByteArray) (l : List Nat) : Int := match l.find? (fun i => !okR s i) with
  | some i => (i : Int)
  | none => -1

theorem firstBad_none {s : ByteArray} {l : List Nat} (h : ∀ i ∈ l, okR s i = true) : firstBad s l = -1 := by
  unfold firstBad
  rw [List.find?_eq_none.2 (fun i hi => by rw [h i hi]; decide)]
theorem firstBad_at {s : ByteArray} {l rest : List Nat} {i : Nat} (h : ∀ j ∈ l, okR s j = true) (hi : okR s i = false) : firstBad s (l ++ i :: rest) = (i : Int) := by
  unfold firstBad
  rw [List.find?_append, List.find?_eq_none.2 (fun j hj => by rw [h j hj]; decide)]
  simp [hi]

set_option maxRecDepth 100000 in
set_option maxHeartbeats 2000000 in
theorem badAt_in (s : ByteArray) (hs : s.size ≤ 140737488355328) (w : World) :
    Calls Tryz.prog 145 #[.string s] w fun e W' => e = .returned (.int .i64 (firstBad s (allL s))) ∧ Below w.heap.size w W' := by
  refine (callsIn_wide (n := 6)).1 ?_
  have hlen := allL_length s
  have hs0 : s.size ≤ maxLen := by unfold maxLen; omega
  refine callsIn_of_wp_marks Tryz.func145 rfl trivial ?_ rfl
  simp only [Tryz.ntmps145, List.size_toArray, List.length_cons, List.length_nil, Nat.reduceAdd, Nat.reduceSub, Array.replicate_succ, Array.replicate_zero, List.push_toArray, List.append_toArray, List.nil_append, List.cons_append]
  gi_wp2_with (refine ⟨trivial, ?_⟩; gi_at_call 147; refine (all_in Fence.wide _ trivial rfl _ _).mono ?_; rintro e w' ⟨rfl, rfl⟩)
  have bS := Boxed.new w 9 (.string s)
  have bR' := Boxed.new (w.alloc (.cells #[.string s] 9)) 3 (.int .i64 0)
  have bN := Boxed.new ((w.alloc (.cells #[.string s] 9)).alloc (.cells #[.int .i64 0] 3)) 9 (.string s)
  rw [World.size_alloc] at bN bR'
  rw [World.size_alloc] at bN
  have hB0 : Below w.heap.size w (((w.alloc (.cells #[.string s] 9)).alloc (.cells #[.int .i64 0] 3)).alloc (.cells #[.string s] 9)) := (((Below.refl _ w).alloc (Nat.le_refl _) _).alloc (by simp) _).alloc (by simp; omega) _
  refine wpIn_rangeFunc_ownG rfl (by decide) (gf := 151) (lb := #[.pointer (some ⟨w.heap.size + 2, 0, none⟩)]) rfl trivial (enters_of Tryz.func151 (by kernel_rfl) rfl)
    (all_stops Fence.wide 5 trivial rfl (by decide) (w.heap.size + 2) s _ (by simp) bN.cell) walksK_t walksK_b (Below.refl _ _) (fun _ => rfl)
    (fun pre W => ((Boxed W w.heap.size 9 (.string s) ∧ Boxed W (w.heap.size + 1) 3 (.int .i64 0)) ∧ Below w.heap.size w W) ∧ ∀ x ∈ pre, okR s x.1 = true)
    (fun c pre W => (c = .ret ∧ ∃ (q : List (Pl s)) (x : Pl s), pre = q ++ [x] ∧ (∀ x ∈ q, okR s x.1 = true) ∧ okR s x.1 = false ∧ Boxed W (w.heap.size + 1) 3 (.int .i64 (x.1 : Nat))) ∧ Below w.heap.size w W)
    (OwnFrom.and (OwnFrom.and (OwnFrom.and (Own.from (boxed_own w.heap.size 9 (fun pre : List (Pl s) => .string s)) _) (Own.from (boxed_own (w.heap.size + 1) 3 (fun pre : List (Pl s) => .int .i64 0)) _)) (ownFrom_below (Nat.le_refl _) (by simp; omega))) (ownFrom_pure _ _))
    (fun c => OwnFrom.and (fun pre X Y row hs hg hr => by
      obtain ⟨hc, q, x, e, h1, h2, hb⟩ := hs
      exact ⟨hc, q, x, e, h1, h2, boxed_own (β := Unit) _ _ (fun _ => .int .i64 (x.1 : Nat)) () X Y row hb hg (fun r e => (hr r e).2)⟩) (ownFrom_below (Nat.le_refl _) (by simp; omega)))
    ⟨⟨⟨(bS.alloc _).alloc _, bR'.alloc _⟩, hB0⟩, fun x hx => by cases hx⟩
    (fun x => { tmps := #[.string s, .pointer (some ⟨w.heap.size, 0, none⟩), .pointer (some ⟨w.heap.size + 1, 0, none⟩), .int .i64 (x.1 : Nat), .int .i32 (rn s x.1 : Nat), undef, undef, undef, .string s, .func (.func 151) #[] #[.pointer (some ⟨w.heap.size + 1 + 1, 0, none⟩)], .int .i64 (x.1 : Nat), .int .i32 (rn s x.1 : Nat), undef, undef, undef, undef, undef, undef, undef, undef, undef, undef, undef, undef], defers := [] }) ?assign ?body ?done ?stop
  case assign =>
    intro l x W K hK
    gi_wp2
    exact hK
  case body =>
    rintro l pre x W ⟨⟨⟨hS, hR⟩, hB⟩, hok⟩ hlt
    have hcS := hS.cell
    have hcR := hR.cell
    have hfR := hR.frozen
    by_cases hr : rn s x.1 = 65533
    · have hrb : ((rn s x.1 : Int) != 65533) = false := by rw [bne_eq_false_iff_eq]; omega
      have Hr := hide hr
      clear hr
      cases ho : okR s x.1 with
      | true =>
        gi_wp2_with (refine ⟨trivial, ?_⟩; gi_at_call 148; refine (CallsIn.inRound l (callsIn_wide.2 (decode_in s x.1 _ hs0 x.2))).mono ?_; rintro e w' ⟨rfl, rfl⟩)
        exact ⟨KeepsFrom.refl _ _, KeepsWalks.refl _, ⟨⟨hS, hR⟩, hB⟩, fun y hy => (List.mem_append.1 hy).elim (hok y) (fun e => by simp at e; subst e; exact ho)⟩
      | false =>
        gi_wp2_with (refine ⟨trivial, ?_⟩; gi_at_call 148; refine (CallsIn.inRound l (callsIn_wide.2 (decode_in s x.1 _ hs0 x.2))).mono ?_; rintro e w' ⟨rfl, rfl⟩)
        exact ⟨(KeepsOthers.setCell _ _ _).from _, ⟨rfl, pre, x, rfl, hok, ho, hR.set _⟩, hB.setCell (p := ⟨w.heap.size + 1, 0, none⟩) (by simp) _⟩
    · have hrb : ((rn s x.1 : Int) != 65533) = true := by rw [bne_iff_ne]; omega
      have ho : okR s x.1 = true := by unfold okR; simp [hr]
      have Hr := hide hr
      clear hr
      gi_wp2
      exact ⟨KeepsFrom.refl _ _, KeepsWalks.refl _, ⟨⟨hS, hR⟩, hB⟩, fun y hy => (List.mem_append.1 hy).elim (hok y) (fun e => by simp at e; subst e; exact ho)⟩
  case done =>
    rintro D ys W hD hys ⟨⟨⟨hS, hR⟩, hB⟩, hok⟩ hK
    have hcR := hR.cell
    have hfR := hR.frozen
    have hfb : firstBad s (allL s) = -1 := firstBad_none (fun i hi => by
      rw [← hys] at hi
      obtain ⟨x, hx, rfl⟩ := List.mem_map.1 hi
      exact hok x hx)
    have Hf := hide hfb
    clear hfb
    gi_wp2
    have hK' := (KeepsOthers.setCell W ⟨w.heap.size + 1, 0, none⟩ (.int .i64 (-1))).same D _ hK rfl
    refine ⟨by simp, .inl ⟨_, _, rfl, run_takeDeferred hK', ?_⟩⟩
    have hc5 := cell_kept (World.cell?_setCell_same' W ⟨w.heap.size + 1, 0, none⟩ (.int .i64 (-1)) (by rw [hcR]; rfl)) (grownBy_putObj' _ D (.deferred none)) (fun r e => by cases e; exact ⟨_, hK', rfl⟩)
    refine ⟨.int .i64 (-1), ?_, by rw [unhide Hf], (hB.setCell (p := ⟨w.heap.size + 1, 0, none⟩) (by simp) _).trans (belowK_b (w := w) (Nat.le_refl _) _ D _ _ (by simp at hD; omega) hK' rfl rfl)⟩
    simp [results, Tryz.f145, go_sem, hc5]
  case stop =>
    rintro D c pre W hD ⟨rest, hrest⟩ ⟨⟨rfl, q, x, rfl, hq, hx, hR⟩, hB⟩ hK
    have hcR := hR.cell
    have hfb : firstBad s (allL s) = (x.1 : Nat) := by
      rw [← hrest]
      have := firstBad_at (s := s) (l := q.map (·.1)) (rest := rest) (i := x.1) (fun j hj => by
        obtain ⟨y, hy, rfl⟩ := List.mem_map.1 hj
        exact hq y hy) hx
      simpa using this
    have Hf := hide hfb
    clear hfb
    gi_wp2
    refine ⟨by simp, .inl ⟨_, _, rfl, run_takeDeferred hK, ?_⟩⟩
    have hc5 := cell_kept hcR (grownBy_putObj' _ D (.deferred none)) (fun r e => by cases e; exact ⟨_, hK, rfl⟩)
    refine ⟨.int .i64 (x.1 : Nat), ?_, by rw [unhide Hf], hB.trans (belowK_b (w := w) (Nat.le_refl _) W D _ _ (by simp at hD; omega) hK rfl rfl)⟩
    simp [results, Tryz.f145, go_sem, hc5]

end Go.Proofs.YtkkolefionbbcaaGreat
