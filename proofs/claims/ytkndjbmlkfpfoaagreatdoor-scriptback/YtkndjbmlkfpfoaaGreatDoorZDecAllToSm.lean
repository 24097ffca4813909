/-
  glyph.Decode at every text and every place of it.
-/
import Derived.Test.YtkndjbmlkfpfoaaGreatDoorZDecToDec4
import Derived.Test.YtkndjbmlkfpfoaaGreatDoorZPureWToPU
import Derived.Test.YtkndjbmlkfpfoaaGreatDoorZMp
import Derived.Laws.Cover4
import Derived.Laws.IdiomStrings
import Derived.OpenShut

namespace Go.Proofs.YtkndjbmlkfpfoaaGreatDoor
open Go.RowKit Go.Lib

/-- glyph.Decode, at every place of a text. -/
theorem decode_in (s : ByteArray) (k : Nat) (w : World) (hs : s.size ≤ maxLen) (hk : k < s.size) :
    Calls Tryz.prog 114 #[.string s, .int .i64 k] w fun e w' => e = .returned (.tuple #[.int .i32 (rn s k : Nat), .int .i64 (wd s k : Nat), .bool (okR s k)]) ∧ w = w' := by
  have h4 := hW_le (by_ s k)
  by_cases h1 : by_ s k ≤ 127
  · refine (decode_one s k w hs hk h1).mono ?_
    rintro e w' ⟨rfl, rfl⟩
    have hd := dec_one s k h1
    exact ⟨ret_dec hd rfl rfl (ok_one hd (by omega)), rfl⟩
  · by_cases h0 : hW (by_ s k) = 0
    · refine (decode_bad s k w hs hk (.inl h0)).mono ?_
      rintro e w' ⟨rfl, rfl⟩
      have hd := dec_bad s k h0
      exact ⟨ret_dec hd rfl rfl (ok_bad hd), rfl⟩
    · by_cases hn : s.size - k < hW (by_ s k)
      · refine (decode_bad s k w hs hk (.inr hn)).mono ?_
        rintro e w' ⟨rfl, rfl⟩
        have hd := dec_short s k hk hn
        exact ⟨ret_dec hd rfl rfl (ok_bad hd), rfl⟩
      · have hne : hW (by_ s k) ≠ 1 := by unfold hW; (repeat' split) <;> omega
        have hc : hW (by_ s k) = 2 ∨ hW (by_ s k) = 3 ∨ hW (by_ s k) = 4 := by omega
        rcases hc with hc | hc | hc
        · exact decode_two s k w hs hk hc (by omega)
        · exact decode_three s k w hs hk hc (by omega)
        · exact decode_four s k w hs hk hc (by omega)


/-- glyph.Decode, at every text and every number. -/
theorem decode_any (s : ByteArray) (a : Int) (w : World) (hs : s.size ≤ maxLen) :
    Calls Tryz.prog 114 #[.string s, .int .i64 a] w fun e w' => e = .returned (.tuple #[.int .i32 (dR s a), .int .i64 (dN s a), .bool (dK s a)]) ∧ w = w' := by
  unfold dR dN dK
  by_cases h : 0 ≤ a ∧ a < s.size
  · rw [if_pos h, if_pos h, if_pos h]
    obtain ⟨k, rfl⟩ := Int.eq_ofNat_of_zero_le h.1
    rw [Int.toNat_natCast]
    exact decode_in s k w hs (by omega)
  · rw [if_neg h, if_neg h, if_neg h]
    exact decode_out s a w hs (by omega)


end Go.Proofs.YtkndjbmlkfpfoaaGreatDoor

/-
  Small functions of package quote: bad, raw, hidden, digit, isRune.
-/
set_option linter.unusedSimpArgs false
set_option linter.unusedVariables false
namespace Go.Proofs.YtkndjbmlkfpfoaaGreatDoor
open Go.RowKit Go.Lib

set_option maxHeartbeats 400000 in
theorem encode_any (r : Int) (w : World) :
    Calls Tryz.prog 98 #[.int .i32 r] w fun e w' => e = .returned (.string (Utf8.encode r)) ∧ w = w' := by
  go_enter Tryz.func98, Tryz.ntmps98
  go_wp2
  go_ret
  exact ⟨rfl, rfl⟩

set_option maxHeartbeats 400000 in
theorem bad_in (s : ByteArray) (i : Nat) (w : World) (hs : s.size ≤ maxLen) (hi : i < s.size) :
    Calls Tryz.prog 101 #[.string s, .int .i64 (i : Int), .int .i32 (rn s i : Nat)] w fun e w' => e = .returned (.bool (!okR s i)) ∧ w = w' := by
  have hdec := fun W => hide (decode_any s (i : Int) W hs)
  by_cases h : rn s i = 65533
  · have hb : (((rn s i : Nat) : Int) != 65533) = false := by rw [h]; rfl
    have hk := hide (dK_in s i hi)
    rw [h] at hb ⊢
    clear h
    go_enter Tryz.func101, Tryz.ntmps101
    go_wp2_with (go_at_call 114; refine (unhide (hdec _)).mono ?_; rintro e w' ⟨rfl, rfl⟩)
    go_ret
    exact ⟨by rw [unhide hk]; rfl, rfl⟩
  · have hb : (((rn s i : Nat) : Int) != 65533) = true := by rw [bne_iff_ne]; omega
    have ho : okR s i = true := by
      cases ho : okR s i with
      | true => rfl
      | false => exact absurd (ok_false_iff ho).1 h
    have Ho := hide ho
    clear ho h
    go_enter Tryz.func101, Tryz.ntmps101
    go_wp2_with (go_at_call 114; refine (unhide (hdec _)).mono ?_; rintro e w' ⟨rfl, rfl⟩)
    go_ret
    exact ⟨by rw [unhide Ho]; rfl, rfl⟩

set_option maxHeartbeats 400000 in
theorem raw_in (s : ByteArray) (i : Nat) (w : World) (hs : s.size ≤ maxLen) (hi : i < s.size) :
    Calls Tryz.prog 82 #[.string s, .int .i64 (i : Int), .int .i32 (rn s i : Nat)] w fun e w' => e = .returned (.bool (rawB s i)) ∧ w = w' := by
  have hbad := fun W => hide (bad_in s i W hs hi)
  by_cases h1 : rn s i < 32
  · have hr := hide (show rawB s i = true by unfold rawB; rw [decide_eq_true h1]; rfl)
    have i1 : ((rn s i : Nat) : Int) < 32 := by omega
    generalize rn s i = r at *
    clear h1
    go_enter Tryz.func82, Tryz.ntmps82
    go_wp2_with (go_at_call 101; refine (unhide (hbad _)).mono ?_; rintro e w' ⟨rfl, rfl⟩)
    go_ret
    exact ⟨by rw [unhide hr]; rfl, rfl⟩
  · by_cases h2 : rn s i = 127
    · have hr := hide (show rawB s i = true by unfold rawB; rw [decide_eq_false h1, decide_eq_true h2]; rfl)
      rw [h2] at *
      clear h1 h2
      go_enter Tryz.func82, Tryz.ntmps82
      go_wp2_with (go_at_call 101; refine (unhide (hbad _)).mono ?_; rintro e w' ⟨rfl, rfl⟩)
      go_ret
      exact ⟨by rw [unhide hr]; rfl, rfl⟩
    · have hr := hide (show rawB s i = !okR s i by unfold rawB; rw [decide_eq_false h1, decide_eq_false h2]; rfl)
      have i1 : ¬ ((rn s i : Nat) : Int) < 32 := by omega
      have i2 : (((rn s i : Nat) : Int) == 127) = false := by rw [beq_eq_false_iff_ne]; omega
      generalize rn s i = r at *
      clear h1 h2
      go_enter Tryz.func82, Tryz.ntmps82
      go_wp2_with (go_at_call 101; refine (unhide (hbad _)).mono ?_; rintro e w' ⟨rfl, rfl⟩)
      go_ret
      exact ⟨by rw [unhide hr]; rfl, rfl⟩

def dgI (r : Nat) : Int := if dgV r < 16 then (dgV r : Int) else -1
set_option maxHeartbeats 400000 in
theorem digit_in (r : Nat) (hr : r ≤ 1114111) (w : World) :
    Calls Tryz.prog 151 #[.int .i32 (r : Int)] w fun e w' => e = .returned (.int .i32 (dgI r)) ∧ w = w' := by
  rcases (by omega : r < 48 ∨ (48 ≤ r ∧ r ≤ 57) ∨ (57 < r ∧ r < 97) ∨ (97 ≤ r ∧ r ≤ 102) ∨ 102 < r) with h | ⟨h, h'⟩ | ⟨h, h'⟩ | ⟨h, h'⟩ | h
  · have hd := hide (show dgI r = -1 by unfold dgI dgV; (repeat' split) <;> omega)
    have i1 : ¬ (48 : Int) ≤ (r : Int) := by omega
    have i2 : ¬ (97 : Int) ≤ (r : Int) := by omega
    clear h
    go_enter Tryz.func151, Tryz.ntmps151
    go_wp2
    go_ret
    exact ⟨by rw [unhide hd]; rfl, rfl⟩
  · have hd := hide (show dgI r = (r : Int) - 48 by unfold dgI dgV; (repeat' split) <;> omega)
    have i1 : (48 : Int) ≤ (r : Int) := by omega
    have i2 : (r : Int) ≤ 57 := by omega
    clear h h'
    go_enter Tryz.func151, Tryz.ntmps151
    go_wp2
    go_ret
    refine ⟨?_, rfl⟩
    rw [unhide hd]
    go_num
  · have hd := hide (show dgI r = -1 by unfold dgI dgV; (repeat' split) <;> omega)
    have i1 : (48 : Int) ≤ (r : Int) := by omega
    have i2 : ¬ (r : Int) ≤ 57 := by omega
    have i3 : ¬ (97 : Int) ≤ (r : Int) := by omega
    clear h h'
    go_enter Tryz.func151, Tryz.ntmps151
    go_wp2
    go_ret
    exact ⟨by rw [unhide hd]; rfl, rfl⟩
  · have hd := hide (show dgI r = (r : Int) - 97 + 10 by unfold dgI dgV; (repeat' split) <;> omega)
    have i1 : (48 : Int) ≤ (r : Int) := by omega
    have i2 : ¬ (r : Int) ≤ 57 := by omega
    have i3 : (97 : Int) ≤ (r : Int) := by omega
    have i4 : (r : Int) ≤ 102 := by omega
    clear h h'
    go_enter Tryz.func151, Tryz.ntmps151
    go_wp2
    go_ret
    refine ⟨?_, rfl⟩
    rw [unhide hd]
    go_num
  · have hd := hide (show dgI r = -1 by unfold dgI dgV; (repeat' split) <;> omega)
    have i1 : (48 : Int) ≤ (r : Int) := by omega
    have i2 : ¬ (r : Int) ≤ 57 := by omega
    have i3 : (97 : Int) ≤ (r : Int) := by omega
    have i4 : ¬ (r : Int) ≤ 102 := by omega
    clear h
    go_enter Tryz.func151, Tryz.ntmps151
    go_wp2
    go_ret
    exact ⟨by rw [unhide hd]; rfl, rfl⟩

/-- is it in one of the first rows? -/
def hkL : List (Nat × Nat) := [(128, 159), (173, 173), (8203, 8207), (8232, 8239), (8288, 8303), (57344, 63743), (65024, 65039), (65279, 65279), (917504, 1114111)]
def hkN (r k : Nat) : Bool := (hkL.take k).any fun p => decide (p.1 ≤ r ∧ r ≤ p.2)
theorem hkN_all (r : Nat) (hr : r ≤ 1114111) : hkN r 9 = hidN r := by
  unfold hkN hidN hkL
  rw [Bool.eq_iff_iff]
  simp
  omega

theorem ixH0 (W : World) : (Instr.index 185 (.agg #[.int .i32 128, .int .i32 159, .int .i32 173, .int .i32 173, .int .i32 8203, .int .i32 8207, .int .i32 8232, .int .i32 8239, .int .i32 8288, .int .i32 8303, .int .i32 57344, .int .i32 63743, .int .i32 65024, .int .i32 65039, .int .i32 65279, .int .i32 65279, .int .i32 917504, .int .i32 1114111]) (.int .i64 0)).run Tryz.prog W = .ok (.agg #[.int .i32 128, .int .i32 159]) W := by kernel_rfl
theorem ixH1 (W : World) : (Instr.index 185 (.agg #[.int .i32 128, .int .i32 159, .int .i32 173, .int .i32 173, .int .i32 8203, .int .i32 8207, .int .i32 8232, .int .i32 8239, .int .i32 8288, .int .i32 8303, .int .i32 57344, .int .i32 63743, .int .i32 65024, .int .i32 65039, .int .i32 65279, .int .i32 65279, .int .i32 917504, .int .i32 1114111]) (.int .i64 1)).run Tryz.prog W = .ok (.agg #[.int .i32 173, .int .i32 173]) W := by kernel_rfl
theorem ixH2 (W : World) : (Instr.index 185 (.agg #[.int .i32 128, .int .i32 159, .int .i32 173, .int .i32 173, .int .i32 8203, .int .i32 8207, .int .i32 8232, .int .i32 8239, .int .i32 8288, .int .i32 8303, .int .i32 57344, .int .i32 63743, .int .i32 65024, .int .i32 65039, .int .i32 65279, .int .i32 65279, .int .i32 917504, .int .i32 1114111]) (.int .i64 2)).run Tryz.prog W = .ok (.agg #[.int .i32 8203, .int .i32 8207]) W := by kernel_rfl
theorem ixH3 (W : World) : (Instr.index 185 (.agg #[.int .i32 128, .int .i32 159, .int .i32 173, .int .i32 173, .int .i32 8203, .int .i32 8207, .int .i32 8232, .int .i32 8239, .int .i32 8288, .int .i32 8303, .int .i32 57344, .int .i32 63743, .int .i32 65024, .int .i32 65039, .int .i32 65279, .int .i32 65279, .int .i32 917504, .int .i32 1114111]) (.int .i64 3)).run Tryz.prog W = .ok (.agg #[.int .i32 8232, .int .i32 8239]) W := by kernel_rfl
theorem ixH4 (W : World) : (Instr.index 185 (.agg #[.int .i32 128, .int .i32 159, .int .i32 173, .int .i32 173, .int .i32 8203, .int .i32 8207, .int .i32 8232, .int .i32 8239, .int .i32 8288, .int .i32 8303, .int .i32 57344, .int .i32 63743, .int .i32 65024, .int .i32 65039, .int .i32 65279, .int .i32 65279, .int .i32 917504, .int .i32 1114111]) (.int .i64 4)).run Tryz.prog W = .ok (.agg #[.int .i32 8288, .int .i32 8303]) W := by kernel_rfl
theorem ixH5 (W : World) : (Instr.index 185 (.agg #[.int .i32 128, .int .i32 159, .int .i32 173, .int .i32 173, .int .i32 8203, .int .i32 8207, .int .i32 8232, .int .i32 8239, .int .i32 8288, .int .i32 8303, .int .i32 57344, .int .i32 63743, .int .i32 65024, .int .i32 65039, .int .i32 65279, .int .i32 65279, .int .i32 917504, .int .i32 1114111]) (.int .i64 5)).run Tryz.prog W = .ok (.agg #[.int .i32 57344, .int .i32 63743]) W := by kernel_rfl
theorem ixH6 (W : World) : (Instr.index 185 (.agg #[.int .i32 128, .int .i32 159, .int .i32 173, .int .i32 173, .int .i32 8203, .int .i32 8207, .int .i32 8232, .int .i32 8239, .int .i32 8288, .int .i32 8303, .int .i32 57344, .int .i32 63743, .int .i32 65024, .int .i32 65039, .int .i32 65279, .int .i32 65279, .int .i32 917504, .int .i32 1114111]) (.int .i64 6)).run Tryz.prog W = .ok (.agg #[.int .i32 65024, .int .i32 65039]) W := by kernel_rfl
theorem ixH7 (W : World) : (Instr.index 185 (.agg #[.int .i32 128, .int .i32 159, .int .i32 173, .int .i32 173, .int .i32 8203, .int .i32 8207, .int .i32 8232, .int .i32 8239, .int .i32 8288, .int .i32 8303, .int .i32 57344, .int .i32 63743, .int .i32 65024, .int .i32 65039, .int .i32 65279, .int .i32 65279, .int .i32 917504, .int .i32 1114111]) (.int .i64 7)).run Tryz.prog W = .ok (.agg #[.int .i32 65279, .int .i32 65279]) W := by kernel_rfl
theorem ixH8 (W : World) : (Instr.index 185 (.agg #[.int .i32 128, .int .i32 159, .int .i32 173, .int .i32 173, .int .i32 8203, .int .i32 8207, .int .i32 8232, .int .i32 8239, .int .i32 8288, .int .i32 8303, .int .i32 57344, .int .i32 63743, .int .i32 65024, .int .i32 65039, .int .i32 65279, .int .i32 65279, .int .i32 917504, .int .i32 1114111]) (.int .i64 8)).run Tryz.prog W = .ok (.agg #[.int .i32 917504, .int .i32 1114111]) W := by kernel_rfl

set_option maxRecDepth 100000 in
set_option maxHeartbeats 2000000 in
theorem hidden_in (r : Nat) (hr : r ≤ 1114111) (w : World) :
    Calls Tryz.prog 96 #[.int .i32 (r : Int)] w fun e w' => e = .returned (.bool (hidN r)) ∧ Below w.heap.size w w' := by
  rw [← hkN_all r hr]
  obtain ⟨R, hR⟩ : ∃ R, hkN r 9 = R := ⟨_, rfl⟩
  rw [hR]
  have HR := hide hR
  clear hR
  go_enter Tryz.func96, Tryz.ntmps96
  go_wp2
  go_loopw [15] (fun i wr => (∃ k : Nat, k ≤ 9 ∧ i = .int .i64 k ∧ Hid (hkN r k = false)) ∧ Below w.heap.size w wr) (fun i _ => 9 - (intOf i).toNat)
  case atStart => exact ⟨⟨0, by omega, rfl, hide rfl⟩, Below.refl _ _⟩
  case round =>
    obtain ⟨⟨k, hk, rfl, hno⟩, hB⟩ := hrel
    have hz := hB.size
    rcases (by omega : k = 0 ∨ k = 1 ∨ k = 2 ∨ k = 3 ∨ k = 4 ∨ k = 5 ∨ k = 6 ∨ k = 7 ∨ k = 8 ∨ k = 9) with rfl | rfl | rfl | rfl | rfl | rfl | rfl | rfl | rfl | rfl
    · have hx := ixH0
      by_cases h1 : 128 ≤ r
      · by_cases h2 : r ≤ 159
        · have HT := hide (show R = true by rw [← unhide HR]; unfold hkN hkL; simp; omega)
          have i1 : (128 : Int) ≤ (r : Int) := by omega
          have i2 : (r : Int) ≤ 159 := by omega
          clear h1 h2
          go_wp2
          go_ret
          exact ⟨by rw [unhide HT]; rfl, hB.alloc hz _⟩
        · have HN := hide (show hkN r (0 + 1) = false by have := unhide hno; unfold hkN hkL at *; simp at *; omega)
          have i1 : (128 : Int) ≤ (r : Int) := by omega
          have i2 : ¬ (r : Int) ≤ 159 := by omega
          clear h1 h2 hno
          go_wp2
          go_roundw
          case rel => exact ⟨⟨1, by omega, by go_num, HN⟩, hB.alloc hz _⟩
          case measure => simp [intOf] <;> omega
      · have HN := hide (show hkN r (0 + 1) = false by have := unhide hno; unfold hkN hkL at *; simp at *; omega)
        have i1 : ¬ (128 : Int) ≤ (r : Int) := by omega
        clear h1 hno
        go_wp2
        go_roundw
        case rel => exact ⟨⟨1, by omega, by go_num, HN⟩, hB.alloc hz _⟩
        case measure => simp [intOf] <;> omega
    · have hx := ixH1
      by_cases h1 : 173 ≤ r
      · by_cases h2 : r ≤ 173
        · have HT := hide (show R = true by rw [← unhide HR]; unfold hkN hkL; simp; omega)
          have i1 : (173 : Int) ≤ (r : Int) := by omega
          have i2 : (r : Int) ≤ 173 := by omega
          clear h1 h2
          go_wp2
          go_ret
          exact ⟨by rw [unhide HT]; rfl, hB.alloc hz _⟩
        · have HN := hide (show hkN r (1 + 1) = false by have := unhide hno; unfold hkN hkL at *; simp at *; omega)
          have i1 : (173 : Int) ≤ (r : Int) := by omega
          have i2 : ¬ (r : Int) ≤ 173 := by omega
          clear h1 h2 hno
          go_wp2
          go_roundw
          case rel => exact ⟨⟨2, by omega, by go_num, HN⟩, hB.alloc hz _⟩
          case measure => simp [intOf] <;> omega
      · have HN := hide (show hkN r (1 + 1) = false by have := unhide hno; unfold hkN hkL at *; simp at *; omega)
        have i1 : ¬ (173 : Int) ≤ (r : Int) := by omega
        clear h1 hno
        go_wp2
        go_roundw
        case rel => exact ⟨⟨2, by omega, by go_num, HN⟩, hB.alloc hz _⟩
        case measure => simp [intOf] <;> omega
    · have hx := ixH2
      by_cases h1 : 8203 ≤ r
      · by_cases h2 : r ≤ 8207
        · have HT := hide (show R = true by rw [← unhide HR]; unfold hkN hkL; simp; omega)
          have i1 : (8203 : Int) ≤ (r : Int) := by omega
          have i2 : (r : Int) ≤ 8207 := by omega
          clear h1 h2
          go_wp2
          go_ret
          exact ⟨by rw [unhide HT]; rfl, hB.alloc hz _⟩
        · have HN := hide (show hkN r (2 + 1) = false by have := unhide hno; unfold hkN hkL at *; simp at *; omega)
          have i1 : (8203 : Int) ≤ (r : Int) := by omega
          have i2 : ¬ (r : Int) ≤ 8207 := by omega
          clear h1 h2 hno
          go_wp2
          go_roundw
          case rel => exact ⟨⟨3, by omega, by go_num, HN⟩, hB.alloc hz _⟩
          case measure => simp [intOf] <;> omega
      · have HN := hide (show hkN r (2 + 1) = false by have := unhide hno; unfold hkN hkL at *; simp at *; omega)
        have i1 : ¬ (8203 : Int) ≤ (r : Int) := by omega
        clear h1 hno
        go_wp2
        go_roundw
        case rel => exact ⟨⟨3, by omega, by go_num, HN⟩, hB.alloc hz _⟩
        case measure => simp [intOf] <;> omega
    · have hx := ixH3
      by_cases h1 : 8232 ≤ r
      · by_cases h2 : r ≤ 8239
        · have HT := hide (show R = true by rw [← unhide HR]; unfold hkN hkL; simp; omega)
          have i1 : (8232 : Int) ≤ (r : Int) := by omega
          have i2 : (r : Int) ≤ 8239 := by omega
          clear h1 h2
          go_wp2
          go_ret
          exact ⟨by rw [unhide HT]; rfl, hB.alloc hz _⟩
        · have HN := hide (show hkN r (3 + 1) = false by have := unhide hno; unfold hkN hkL at *; simp at *; omega)
          have i1 : (8232 : Int) ≤ (r : Int) := by omega
          have i2 : ¬ (r : Int) ≤ 8239 := by omega
          clear h1 h2 hno
          go_wp2
          go_roundw
          case rel => exact ⟨⟨4, by omega, by go_num, HN⟩, hB.alloc hz _⟩
          case measure => simp [intOf] <;> omega
      · have HN := hide (show hkN r (3 + 1) = false by have := unhide hno; unfold hkN hkL at *; simp at *; omega)
        have i1 : ¬ (8232 : Int) ≤ (r : Int) := by omega
        clear h1 hno
        go_wp2
        go_roundw
        case rel => exact ⟨⟨4, by omega, by go_num, HN⟩, hB.alloc hz _⟩
        case measure => simp [intOf] <;> omega
    · have hx := ixH4
      by_cases h1 : 8288 ≤ r
      · by_cases h2 : r ≤ 8303
        · have HT := hide (show R = true by rw [← unhide HR]; unfold hkN hkL; simp; omega)
          have i1 : (8288 : Int) ≤ (r : Int) := by omega
          have i2 : (r : Int) ≤ 8303 := by omega
          clear h1 h2
          go_wp2
          go_ret
          exact ⟨by rw [unhide HT]; rfl, hB.alloc hz _⟩
        · have HN := hide (show hkN r (4 + 1) = false by have := unhide hno; unfold hkN hkL at *; simp at *; omega)
          have i1 : (8288 : Int) ≤ (r : Int) := by omega
          have i2 : ¬ (r : Int) ≤ 8303 := by omega
          clear h1 h2 hno
          go_wp2
          go_roundw
          case rel => exact ⟨⟨5, by omega, by go_num, HN⟩, hB.alloc hz _⟩
          case measure => simp [intOf] <;> omega
      · have HN := hide (show hkN r (4 + 1) = false by have := unhide hno; unfold hkN hkL at *; simp at *; omega)
        have i1 : ¬ (8288 : Int) ≤ (r : Int) := by omega
        clear h1 hno
        go_wp2
        go_roundw
        case rel => exact ⟨⟨5, by omega, by go_num, HN⟩, hB.alloc hz _⟩
        case measure => simp [intOf] <;> omega
    · have hx := ixH5
      by_cases h1 : 57344 ≤ r
      · by_cases h2 : r ≤ 63743
        · have HT := hide (show R = true by rw [← unhide HR]; unfold hkN hkL; simp; omega)
          have i1 : (57344 : Int) ≤ (r : Int) := by omega
          have i2 : (r : Int) ≤ 63743 := by omega
          clear h1 h2
          go_wp2
          go_ret
          exact ⟨by rw [unhide HT]; rfl, hB.alloc hz _⟩
        · have HN := hide (show hkN r (5 + 1) = false by have := unhide hno; unfold hkN hkL at *; simp at *; omega)
          have i1 : (57344 : Int) ≤ (r : Int) := by omega
          have i2 : ¬ (r : Int) ≤ 63743 := by omega
          clear h1 h2 hno
          go_wp2
          go_roundw
          case rel => exact ⟨⟨6, by omega, by go_num, HN⟩, hB.alloc hz _⟩
          case measure => simp [intOf] <;> omega
      · have HN := hide (show hkN r (5 + 1) = false by have := unhide hno; unfold hkN hkL at *; simp at *; omega)
        have i1 : ¬ (57344 : Int) ≤ (r : Int) := by omega
        clear h1 hno
        go_wp2
        go_roundw
        case rel => exact ⟨⟨6, by omega, by go_num, HN⟩, hB.alloc hz _⟩
        case measure => simp [intOf] <;> omega
    · have hx := ixH6
      by_cases h1 : 65024 ≤ r
      · by_cases h2 : r ≤ 65039
        · have HT := hide (show R = true by rw [← unhide HR]; unfold hkN hkL; simp; omega)
          have i1 : (65024 : Int) ≤ (r : Int) := by omega
          have i2 : (r : Int) ≤ 65039 := by omega
          clear h1 h2
          go_wp2
          go_ret
          exact ⟨by rw [unhide HT]; rfl, hB.alloc hz _⟩
        · have HN := hide (show hkN r (6 + 1) = false by have := unhide hno; unfold hkN hkL at *; simp at *; omega)
          have i1 : (65024 : Int) ≤ (r : Int) := by omega
          have i2 : ¬ (r : Int) ≤ 65039 := by omega
          clear h1 h2 hno
          go_wp2
          go_roundw
          case rel => exact ⟨⟨7, by omega, by go_num, HN⟩, hB.alloc hz _⟩
          case measure => simp [intOf] <;> omega
      · have HN := hide (show hkN r (6 + 1) = false by have := unhide hno; unfold hkN hkL at *; simp at *; omega)
        have i1 : ¬ (65024 : Int) ≤ (r : Int) := by omega
        clear h1 hno
        go_wp2
        go_roundw
        case rel => exact ⟨⟨7, by omega, by go_num, HN⟩, hB.alloc hz _⟩
        case measure => simp [intOf] <;> omega
    · have hx := ixH7
      by_cases h1 : 65279 ≤ r
      · by_cases h2 : r ≤ 65279
        · have HT := hide (show R = true by rw [← unhide HR]; unfold hkN hkL; simp; omega)
          have i1 : (65279 : Int) ≤ (r : Int) := by omega
          have i2 : (r : Int) ≤ 65279 := by omega
          clear h1 h2
          go_wp2
          go_ret
          exact ⟨by rw [unhide HT]; rfl, hB.alloc hz _⟩
        · have HN := hide (show hkN r (7 + 1) = false by have := unhide hno; unfold hkN hkL at *; simp at *; omega)
          have i1 : (65279 : Int) ≤ (r : Int) := by omega
          have i2 : ¬ (r : Int) ≤ 65279 := by omega
          clear h1 h2 hno
          go_wp2
          go_roundw
          case rel => exact ⟨⟨8, by omega, by go_num, HN⟩, hB.alloc hz _⟩
          case measure => simp [intOf] <;> omega
      · have HN := hide (show hkN r (7 + 1) = false by have := unhide hno; unfold hkN hkL at *; simp at *; omega)
        have i1 : ¬ (65279 : Int) ≤ (r : Int) := by omega
        clear h1 hno
        go_wp2
        go_roundw
        case rel => exact ⟨⟨8, by omega, by go_num, HN⟩, hB.alloc hz _⟩
        case measure => simp [intOf] <;> omega
    · have hx := ixH8
      by_cases h1 : 917504 ≤ r
      · by_cases h2 : r ≤ 1114111
        · have HT := hide (show R = true by rw [← unhide HR]; unfold hkN hkL; simp; omega)
          have i1 : (917504 : Int) ≤ (r : Int) := by omega
          have i2 : (r : Int) ≤ 1114111 := by omega
          clear h1 h2
          go_wp2
          go_ret
          exact ⟨by rw [unhide HT]; rfl, hB.alloc hz _⟩
        · omega
      · have HN := hide (show hkN r (8 + 1) = false by have := unhide hno; unfold hkN hkL at *; simp at *; omega)
        have i1 : ¬ (917504 : Int) ≤ (r : Int) := by omega
        clear h1 hno
        go_wp2
        go_roundw
        case rel => exact ⟨⟨9, by omega, by go_num, HN⟩, hB.alloc hz _⟩
        case measure => simp [intOf] <;> omega
    · have HF := hide (show R = false by rw [← unhide HR]; exact unhide hno)
      clear hno
      go_wp2
      go_ret
      exact ⟨by rw [unhide HF]; rfl, hB⟩

end Go.Proofs.YtkndjbmlkfpfoaaGreatDoor
