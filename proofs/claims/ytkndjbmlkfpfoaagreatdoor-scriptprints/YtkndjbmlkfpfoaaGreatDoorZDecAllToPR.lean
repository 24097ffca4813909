/-
  glyph.Decode at every text and every place of it.
-/
import Derived.Test.YtkndjbmlkfpfoaaGreatDoorZEncToDec4
import Derived.Test.YtkndjbmlkfpfoaaGreatDoorZPureToPX
import Derived.Laws.Cover4
import Derived.Laws.IdiomStrings
import Derived.OpenShut

namespace Go.Proofs.YtkndjbmlkfpfoaaGreatDoor
open Go.RowKit Go.Lib

/-- glyph.Decode, at every place of a text. -/
theorem decode_in (s : ByteArray) (k : Nat) (w : World) (hs : s.size ≤ maxLen) (hk : k < s.size) :
    Calls Tryz.prog 114 #[.string s, .int .i64 k] w fun e w' => e = .returned (.tuple #[.int .i32 (rn s k : Nat), .int .i64 (wd s k : Nat), .bool (okR s k)]) ∧ w = w' := by
  have h4 := hW_le (by_ s k)
  by_cases h1 : by_ s k ≤ 127
  · refine (decode_one s k w hs hk h1).mono ?_
    rintro e w' ⟨rfl, rfl⟩
    have hd := dec_one s k h1
    exact ⟨ret_dec hd rfl rfl (ok_one hd (by omega)), rfl⟩
  · by_cases h0 : hW (by_ s k) = 0
    · refine (decode_bad s k w hs hk (.inl h0)).mono ?_
      rintro e w' ⟨rfl, rfl⟩
      have hd := dec_bad s k h0
      exact ⟨ret_dec hd rfl rfl (ok_bad hd), rfl⟩
    · by_cases hn : s.size - k < hW (by_ s k)
      · refine (decode_bad s k w hs hk (.inr hn)).mono ?_
        rintro e w' ⟨rfl, rfl⟩
        have hd := dec_short s k hk hn
        exact ⟨ret_dec hd rfl rfl (ok_bad hd), rfl⟩
      · have hne : hW (by_ s k) ≠ 1 := by unfold hW; (repeat' split) <;> omega
        have hc : hW (by_ s k) = 2 ∨ hW (by_ s k) = 3 ∨ hW (by_ s k) = 4 := by omega
        rcases hc with hc | hc | hc
        · exact decode_two s k w hs hk hc (by omega)
        · exact decode_three s k w hs hk hc (by omega)
        · exact decode_four s k w hs hk hc (by omega)


/-- glyph.Decode, at every text and every number. -/
theorem decode_any (s : ByteArray) (a : Int) (w : World) (hs : s.size ≤ maxLen) :
    Calls Tryz.prog 114 #[.string s, .int .i64 a] w fun e w' => e = .returned (.tuple #[.int .i32 (dR s a), .int .i64 (dN s a), .bool (dK s a)]) ∧ w = w' := by
  unfold dR dN dK
  by_cases h : 0 ≤ a ∧ a < s.size
  · rw [if_pos h, if_pos h, if_pos h]
    obtain ⟨k, rfl⟩ := Int.eq_ofNat_of_zero_le h.1
    rw [Int.toNat_natCast]
    exact decode_in s k w hs (by omega)
  · rw [if_neg h, if_neg h, if_neg h]
    exact decode_out s a w hs (by omega)


end Go.Proofs.YtkndjbmlkfpfoaaGreatDoor

/-
  Small functions of package quote: bad, raw, hidden, digit, isRune.
-/
set_option linter.unusedSimpArgs false
set_option linter.unusedVariables false
namespace Go.Proofs.YtkndjbmlkfpfoaaGreatDoor
open Go.RowKit Go.Lib

set_option maxHeartbeats 400000 in
theorem encode_any (r : Int) (w : World) :
    Calls Tryz.prog 98 #[.int .i32 r] w fun e w' => e = .returned (.string (Utf8.encode r)) ∧ w = w' := by
  go_enter Tryz.func98, Tryz.ntmps98
  go_wp2
  go_ret
  exact ⟨rfl, rfl⟩

set_option maxHeartbeats 400000 in
theorem bad_in (s : ByteArray) (i : Nat) (w : World) (hs : s.size ≤ maxLen) (hi : i < s.size) :
    Calls Tryz.prog 101 #[.string s, .int .i64 (i : Int), .int .i32 (rn s i : Nat)] w fun e w' => e = .returned (.bool (!okR s i)) ∧ w = w' := by
  have hdec := fun W => hide (decode_any s (i : Int) W hs)
  by_cases h : rn s i = 65533
  · have hb : (((rn s i : Nat) : Int) != 65533) = false := by rw [h]; rfl
    have hk := hide (dK_in s i hi)
    rw [h] at hb ⊢
    clear h
    go_enter Tryz.func101, Tryz.ntmps101
    go_wp2_with (go_at_call 114; refine (unhide (hdec _)).mono ?_; rintro e w' ⟨rfl, rfl⟩)
    go_ret
    exact ⟨by rw [unhide hk]; rfl, rfl⟩
  · have hb : (((rn s i : Nat) : Int) != 65533) = true := by rw [bne_iff_ne]; omega
    have ho : okR s i = true := by
      cases ho : okR s i with
      | true => rfl
      | false => exact absurd (ok_false_iff ho).1 h
    have Ho := hide ho
    clear ho h
    go_enter Tryz.func101, Tryz.ntmps101
    go_wp2_with (go_at_call 114; refine (unhide (hdec _)).mono ?_; rintro e w' ⟨rfl, rfl⟩)
    go_ret
    exact ⟨by rw [unhide Ho]; rfl, rfl⟩

set_option maxHeartbeats 400000 in
theorem raw_in (s : ByteArray) (i : Nat) (w : World) (hs : s.size ≤ maxLen) (hi : i < s.size) :
    Calls Tryz.prog 82 #[.string s, .int .i64 (i : Int), .int .i32 (rn s i : Nat)] w fun e w' => e = .returned (.bool (rawB s i)) ∧ w = w' := by
  have hbad := fun W => hide (bad_in s i W hs hi)
  by_cases h1 : rn s i < 32
  · have hr := hide (show rawB s i = true by unfold rawB; rw [decide_eq_true h1]; rfl)
    have i1 : ((rn s i : Nat) : Int) < 32 := by omega
    generalize rn s i = r at *
    clear h1
    go_enter Tryz.func82, Tryz.ntmps82
    go_wp2_with (go_at_call 101; refine (unhide (hbad _)).mono ?_; rintro e w' ⟨rfl, rfl⟩)
    go_ret
    exact ⟨by rw [unhide hr]; rfl, rfl⟩
  · by_cases h2 : rn s i = 127
    · have hr := hide (show rawB s i = true by unfold rawB; rw [decide_eq_false h1, decide_eq_true h2]; rfl)
      rw [h2] at *
      clear h1 h2
      go_enter Tryz.func82, Tryz.ntmps82
      go_wp2_with (go_at_call 101; refine (unhide (hbad _)).mono ?_; rintro e w' ⟨rfl, rfl⟩)
      go_ret
      exact ⟨by rw [unhide hr]; rfl, rfl⟩
    · have hr := hide (show rawB s i = !okR s i by unfold rawB; rw [decide_eq_false h1, decide_eq_false h2]; rfl)
      have i1 : ¬ ((rn s i : Nat) : Int) < 32 := by omega
      have i2 : (((rn s i : Nat) : Int) == 127) = false := by rw [beq_eq_false_iff_ne]; omega
      generalize rn s i = r at *
      clear h1 h2
      go_enter Tryz.func82, Tryz.ntmps82
      go_wp2_with (go_at_call 101; refine (unhide (hbad _)).mono ?_; rintro e w' ⟨rfl, rfl⟩)
      go_ret
      exact ⟨by rw [unhide hr]; rfl, rfl⟩

theorem dgV_lt (r : Nat) : dgV r ≤ 16 := by unfold dgV; (repeat' split) <;> omega
def dgI (r : Nat) : Int := if dgV r < 16 then (dgV r : Int) else -1
set_option maxHeartbeats 400000 in
theorem digit_in (r : Nat) (hr : r ≤ 1114111) (w : World) :
    Calls Tryz.prog 151 #[.int .i32 (r : Int)] w fun e w' => e = .returned (.int .i32 (dgI r)) ∧ w = w' := by
  rcases (by omega : r < 48 ∨ (48 ≤ r ∧ r ≤ 57) ∨ (57 < r ∧ r < 97) ∨ (97 ≤ r ∧ r ≤ 102) ∨ 102 < r) with h | ⟨h, h'⟩ | ⟨h, h'⟩ | ⟨h, h'⟩ | h
  · have hd := hide (show dgI r = -1 by unfold dgI dgV; (repeat' split) <;> omega)
    have i1 : ¬ (48 : Int) ≤ (r : Int) := by omega
    have i2 : ¬ (97 : Int) ≤ (r : Int) := by omega
    clear h
    go_enter Tryz.func151, Tryz.ntmps151
    go_wp2
    go_ret
    exact ⟨by rw [unhide hd]; rfl, rfl⟩
  · have hd := hide (show dgI r = (r : Int) - 48 by unfold dgI dgV; (repeat' split) <;> omega)
    have i1 : (48 : Int) ≤ (r : Int) := by omega
    have i2 : (r : Int) ≤ 57 := by omega
    clear h h'
    go_enter Tryz.func151, Tryz.ntmps151
    go_wp2
    go_ret
    refine ⟨?_, rfl⟩
    rw [unhide hd]
    go_num
  · have hd := hide (show dgI r = -1 by unfold dgI dgV; (repeat' split) <;> omega)
    have i1 : (48 : Int) ≤ (r : Int) := by omega
    have i2 : ¬ (r : Int) ≤ 57 := by omega
    have i3 : ¬ (97 : Int) ≤ (r : Int) := by omega
    clear h h'
    go_enter Tryz.func151, Tryz.ntmps151
    go_wp2
    go_ret
    exact ⟨by rw [unhide hd]; rfl, rfl⟩
  · have hd := hide (show dgI r = (r : Int) - 97 + 10 by unfold dgI dgV; (repeat' split) <;> omega)
    have i1 : (48 : Int) ≤ (r : Int) := by omega
    have i2 : ¬ (r : Int) ≤ 57 := by omega
    have i3 : (97 : Int) ≤ (r : Int) := by omega
    have i4 : (r : Int) ≤ 102 := by omega
    clear h h'
    go_enter Tryz.func151, Tryz.ntmps151
    go_wp2
    go_ret
    refine ⟨?_, rfl⟩
    rw [unhide hd]
    go_num
  · have hd := hide (show dgI r = -1 by unfold dgI dgV; (repeat' split) <;> omega)
    have i1 : (48 : Int) ≤ (r : Int) := by omega
    have i2 : ¬ (r : Int) ≤ 57 := by omega
    have i3 : (97 : Int) ≤ (r : Int) := by omega
    have i4 : ¬ (r : Int) ≤ 102 := by omega
    clear h
    go_enter Tryz.func151, Tryz.ntmps151
    go_wp2
    go_ret
    exact ⟨by rw [unhide hd]; rfl, rfl⟩

/-- is it in one of the first rows? -/
def hkL : List (Nat × Nat) := [(128, 159), (173, 173), (8203, 8207), (8232, 8239), (8288, 8303), (57344, 63743), (65024, 65039), (65279, 65279), (917504, 1114111)]
def hkN (r k : Nat) : Bool := (hkL.take k).any fun p => decide (p.1 ≤ r ∧ r ≤ p.2)
theorem hkN_all (r : Nat) (hr : r ≤ 1114111) : hkN r 9 = hidN r := by
  unfold hkN hidN hkL
  rw [Bool.eq_iff_iff]
  simp
  omega

theorem ixH0 (W : World) : (Instr.index 185 (.agg #[.int .i32 128, .int .i32 159, .int .i32 173, .int .i32 173, .int .i32 8203, .int .i32 8207, .int .i32 8232, .int .i32 8239, .int .i32 8288, .int .i32 8303, .int .i32 57344, .int .i32 63743, .int .i32 65024, .int .i32 65039, .int .i32 65279, .int .i32 65279, .int .i32 917504, .int .i32 1114111]) (.int .i64 0)).run Tryz.prog W = .ok (.agg #[.int .i32 128, .int .i32 159]) W := by kernel_rfl
theorem ixH1 (W : World) : (Instr.index 185 (.agg #[.int .i32 128, .int .i32 159, .int .i32 173, .int .i32 173, .int .i32 8203, .int .i32 8207, .int .i32 8232, .int .i32 8239, .int .i32 8288, .int .i32 8303, .int .i32 57344, .int .i32 63743, .int .i32 65024, .int .i32 65039, .int .i32 65279, .int .i32 65279, .int .i32 917504, .int .i32 1114111]) (.int .i64 1)).run Tryz.prog W = .ok (.agg #[.int .i32 173, .int .i32 173]) W := by kernel_rfl
theorem ixH2 (W : World) : (Instr.index 185 (.agg #[.int .i32 128, .int .i32 159, .int .i32 173, .int .i32 173, .int .i32 8203, .int .i32 8207, .int .i32 8232, .int .i32 8239, .int .i32 8288, .int .i32 8303, .int .i32 57344, .int .i32 63743, .int .i32 65024, .int .i32 65039, .int .i32 65279, .int .i32 65279, .int .i32 917504, .int .i32 1114111]) (.int .i64 2)).run Tryz.prog W = .ok (.agg #[.int .i32 8203, .int .i32 8207]) W := by kernel_rfl
theorem ixH3 (W : World) : (Instr.index 185 (.agg #[.int .i32 128, .int .i32 159, .int .i32 173, .int .i32 173, .int .i32 8203, .int .i32 8207, .int .i32 8232, .int .i32 8239, .int .i32 8288, .int .i32 8303, .int .i32 57344, .int .i32 63743, .int .i32 65024, .int .i32 65039, .int .i32 65279, .int .i32 65279, .int .i32 917504, .int .i32 1114111]) (.int .i64 3)).run Tryz.prog W = .ok (.agg #[.int .i32 8232, .int .i32 8239]) W := by kernel_rfl
theorem ixH4 (W : World) : (Instr.index 185 (.agg #[.int .i32 128, .int .i32 159, .int .i32 173, .int .i32 173, .int .i32 8203, .int .i32 8207, .int .i32 8232, .int .i32 8239, .int .i32 8288, .int .i32 8303, .int .i32 57344, .int .i32 63743, .int .i32 65024, .int .i32 65039, .int .i32 65279, .int .i32 65279, .int .i32 917504, .int .i32 1114111]) (.int .i64 4)).run Tryz.prog W = .ok (.agg #[.int .i32 8288, .int .i32 8303]) W := by kernel_rfl
theorem ixH5 (W : World) : (Instr.index 185 (.agg #[.int .i32 128, .int .i32 159, .int .i32 173, .int .i32 173, .int .i32 8203, .int .i32 8207, .int .i32 8232, .int .i32 8239, .int .i32 8288, .int .i32 8303, .int .i32 57344, .int .i32 63743, .int .i32 65024, .int .i32 65039, .int .i32 65279, .int .i32 65279, .int .i32 917504, .int .i32 1114111]) (.int .i64 5)).run Tryz.prog W = .ok (.agg #[.int .i32 57344, .int .i32 63743]) W := by kernel_rfl
theorem ixH6 (W : World) : (Instr.index 185 (.agg #[.int .i32 128, .int .i32 159, .int .i32 173, .int .i32 173, .int .i32 8203, .int .i32 8207, .int .i32 8232, .int .i32 8239, .int .i32 8288, .int .i32 8303, .int .i32 57344, .int .i32 63743, .int .i32 65024, .int .i32 65039, .int .i32 65279, .int .i32 65279, .int .i32 917504, .int .i32 1114111]) (.int .i64 6)).run Tryz.prog W = .ok (.agg #[.int .i32 65024, .int .i32 65039]) W := by kernel_rfl
theorem ixH7 (W : World) : (Instr.index 185 (.agg #[.int .i32 128, .int .i32 159, .int .i32 173, .int .i32 173, .int .i32 8203, .int .i32 8207, .int .i32 8232, .int .i32 8239, .int .i32 8288, .int .i32 8303, .int .i32 57344, .int .i32 63743, .int .i32 65024, .int .i32 65039, .int .i32 65279, .int .i32 65279, .int .i32 917504, .int .i32 1114111]) (.int .i64 7)).run Tryz.prog W = .ok (.agg #[.int .i32 65279, .int .i32 65279]) W := by kernel_rfl
theorem ixH8 (W : World) : (Instr.index 185 (.agg #[.int .i32 128, .int .i32 159, .int .i32 173, .int .i32 173, .int .i32 8203, .int .i32 8207, .int .i32 8232, .int .i32 8239, .int .i32 8288, .int .i32 8303, .int .i32 57344, .int .i32 63743, .int .i32 65024, .int .i32 65039, .int .i32 65279, .int .i32 65279, .int .i32 917504, .int .i32 1114111]) (.int .i64 8)).run Tryz.prog W = .ok (.agg #[.int .i32 917504, .int .i32 1114111]) W := by kernel_rfl

set_option maxRecDepth 100000 in
set_option maxHeartbeats 2000000 in
theorem hidden_in (r : Nat) (hr : r ≤ 1114111) (w : World) :
    Calls Tryz.prog 96 #[.int .i32 (r : Int)] w fun e w' => e = .returned (.bool (hidN r)) ∧ Below w.heap.size w w' := by
  rw [← hkN_all r hr]
  obtain ⟨R, hR⟩ : ∃ R, hkN r 9 = R := ⟨_, rfl⟩
  rw [hR]
  have HR := hide hR
  clear hR
  go_enter Tryz.func96, Tryz.ntmps96
  go_wp2
  go_loopw [15] (fun i wr => (∃ k : Nat, k ≤ 9 ∧ i = .int .i64 k ∧ Hid (hkN r k = false)) ∧ Below w.heap.size w wr) (fun i _ => 9 - (intOf i).toNat)
  case atStart => exact ⟨⟨0, by omega, rfl, hide rfl⟩, Below.refl _ _⟩
  case round =>
    obtain ⟨⟨k, hk, rfl, hno⟩, hB⟩ := hrel
    have hz := hB.size
    rcases (by omega : k = 0 ∨ k = 1 ∨ k = 2 ∨ k = 3 ∨ k = 4 ∨ k = 5 ∨ k = 6 ∨ k = 7 ∨ k = 8 ∨ k = 9) with rfl | rfl | rfl | rfl | rfl | rfl | rfl | rfl | rfl | rfl
    · have hx := ixH0
      by_cases h1 : 128 ≤ r
      · by_cases h2 : r ≤ 159
        · have HT := hide (show R = true by rw [← unhide HR]; unfold hkN hkL; simp; omega)
          have i1 : (128 : Int) ≤ (r : Int) := by omega
          have i2 : (r : Int) ≤ 159 := by omega
          clear h1 h2
          go_wp2
          go_ret
          exact ⟨by rw [unhide HT]; rfl, hB.alloc hz _⟩
        · have HN := hide (show hkN r (0 + 1) = false by have := unhide hno; unfold hkN hkL at *; simp at *; omega)
          have i1 : (128 : Int) ≤ (r : Int) := by omega
          have i2 : ¬ (r : Int) ≤ 159 := by omega
          clear h1 h2 hno
          go_wp2
          go_roundw
          case rel => exact ⟨⟨1, by omega, by go_num, HN⟩, hB.alloc hz _⟩
          case measure => simp [intOf] <;> omega
      · have HN := hide (show hkN r (0 + 1) = false by have := unhide hno; unfold hkN hkL at *; simp at *; omega)
        have i1 : ¬ (128 : Int) ≤ (r : Int) := by omega
        clear h1 hno
        go_wp2
        go_roundw
        case rel => exact ⟨⟨1, by omega, by go_num, HN⟩, hB.alloc hz _⟩
        case measure => simp [intOf] <;> omega
    · have hx := ixH1
      by_cases h1 : 173 ≤ r
      · by_cases h2 : r ≤ 173
        · have HT := hide (show R = true by rw [← unhide HR]; unfold hkN hkL; simp; omega)
          have i1 : (173 : Int) ≤ (r : Int) := by omega
          have i2 : (r : Int) ≤ 173 := by omega
          clear h1 h2
          go_wp2
          go_ret
          exact ⟨by rw [unhide HT]; rfl, hB.alloc hz _⟩
        · have HN := hide (show hkN r (1 + 1) = false by have := unhide hno; unfold hkN hkL at *; simp at *; omega)
          have i1 : (173 : Int) ≤ (r : Int) := by omega
          have i2 : ¬ (r : Int) ≤ 173 := by omega
          clear h1 h2 hno
          go_wp2
          go_roundw
          case rel => exact ⟨⟨2, by omega, by go_num, HN⟩, hB.alloc hz _⟩
          case measure => simp [intOf] <;> omega
      · have HN := hide (show hkN r (1 + 1) = false by have := unhide hno; unfold hkN hkL at *; simp at *; omega)
        have i1 : ¬ (173 : Int) ≤ (r : Int) := by omega
        clear h1 hno
        go_wp2
        go_roundw
        case rel => exact ⟨⟨2, by omega, by go_num, HN⟩, hB.alloc hz _⟩
        case measure => simp [intOf] <;> omega
    · have hx := ixH2
      by_cases h1 : 8203 ≤ r
      · by_cases h2 : r ≤ 8207
        · have HT := hide (show R = true by rw [← unhide HR]; unfold hkN hkL; simp; omega)
          have i1 : (8203 : Int) ≤ (r : Int) := by omega
          have i2 : (r : Int) ≤ 8207 := by omega
          clear h1 h2
          go_wp2
          go_ret
          exact ⟨by rw [unhide HT]; rfl, hB.alloc hz _⟩
        · have HN := hide (show hkN r (2 + 1) = false by have := unhide hno; unfold hkN hkL at *; simp at *; omega)
          have i1 : (8203 : Int) ≤ (r : Int) := by omega
          have i2 : ¬ (r : Int) ≤ 8207 := by omega
          clear h1 h2 hno
          go_wp2
          go_roundw
          case rel => exact ⟨⟨3, by omega, by go_num, HN⟩, hB.alloc hz _⟩
          case measure => simp [intOf] <;> omega
      · have HN := hide (show hkN r (2 + 1) = false by have := unhide hno; unfold hkN hkL at *; simp at *; omega)
        have i1 : ¬ (8203 : Int) ≤ (r : Int) := by omega
        clear h1 hno
        go_wp2
        go_roundw
        case rel => exact ⟨⟨3, by omega, by go_num, HN⟩, hB.alloc hz _⟩
        case measure => simp [intOf] <;> omega
    · have hx := ixH3
      by_cases h1 : 8232 ≤ r
      · by_cases h2 : r ≤ 8239
        · have HT := hide (show R = true by rw [← unhide HR]; unfold hkN hkL; simp; omega)
          have i1 : (8232 : Int) ≤ (r : Int) := by omega
          have i2 : (r : Int) ≤ 8239 := by omega
          clear h1 h2
          go_wp2
          go_ret
          exact ⟨by rw [unhide HT]; rfl, hB.alloc hz _⟩
        · have HN := hide (show hkN r (3 + 1) = false by have := unhide hno; unfold hkN hkL at *; simp at *; omega)
          have i1 : (8232 : Int) ≤ (r : Int) := by omega
          have i2 : ¬ (r : Int) ≤ 8239 := by omega
          clear h1 h2 hno
          go_wp2
          go_roundw
          case rel => exact ⟨⟨4, by omega, by go_num, HN⟩, hB.alloc hz _⟩
          case measure => simp [intOf] <;> omega
      · have HN := hide (show hkN r (3 + 1) = false by have := unhide hno; unfold hkN hkL at *; simp at *; omega)
        have i1 : ¬ (8232 : Int) ≤ (r : Int) := by omega
        clear h1 hno
        go_wp2
        go_roundw
        case rel => exact ⟨⟨4, by omega, by go_num, HN⟩, hB.alloc hz _⟩
        case measure => simp [intOf] <;> omega
    · have hx := ixH4
      by_cases h1 : 8288 ≤ r
      · by_cases h2 : r ≤ 8303
        · have HT := hide (show R = true by rw [← unhide HR]; unfold hkN hkL; simp; omega)
          have i1 : (8288 : Int) ≤ (r : Int) := by omega
          have i2 : (r : Int) ≤ 8303 := by omega
          clear h1 h2
          go_wp2
          go_ret
          exact ⟨by rw [unhide HT]; rfl, hB.alloc hz _⟩
        · have HN := hide (show hkN r (4 + 1) = false by have := unhide hno; unfold hkN hkL at *; simp at *; omega)
          have i1 : (8288 : Int) ≤ (r : Int) := by omega
          have i2 : ¬ (r : Int) ≤ 8303 := by omega
          clear h1 h2 hno
          go_wp2
          go_roundw
          case rel => exact ⟨⟨5, by omega, by go_num, HN⟩, hB.alloc hz _⟩
          case measure => simp [intOf] <;> omega
      · have HN := hide (show hkN r (4 + 1) = false by have := unhide hno; unfold hkN hkL at *; simp at *; omega)
        have i1 : ¬ (8288 : Int) ≤ (r : Int) := by omega
        clear h1 hno
        go_wp2
        go_roundw
        case rel => exact ⟨⟨5, by omega, by go_num, HN⟩, hB.alloc hz _⟩
        case measure => simp [intOf] <;> omega
    · have hx := ixH5
      by_cases h1 : 57344 ≤ r
      · by_cases h2 : r ≤ 63743
        · have HT := hide (show R = true by rw [← unhide HR]; unfold hkN hkL; simp; omega)
          have i1 : (57344 : Int) ≤ (r : Int) := by omega
          have i2 : (r : Int) ≤ 63743 := by omega
          clear h1 h2
          go_wp2
          go_ret
          exact ⟨by rw [unhide HT]; rfl, hB.alloc hz _⟩
        · have HN := hide (show hkN r (5 + 1) = false by have := unhide hno; unfold hkN hkL at *; simp at *; omega)
          have i1 : (57344 : Int) ≤ (r : Int) := by omega
          have i2 : ¬ (r : Int) ≤ 63743 := by omega
          clear h1 h2 hno
          go_wp2
          go_roundw
          case rel => exact ⟨⟨6, by omega, by go_num, HN⟩, hB.alloc hz _⟩
          case measure => simp [intOf] <;> omega
      · have HN := hide (show hkN r (5 + 1) = false by have := unhide hno; unfold hkN hkL at *; simp at *; omega)
        have i1 : ¬ (57344 : Int) ≤ (r : Int) := by omega
        clear h1 hno
        go_wp2
        go_roundw
        case rel => exact ⟨⟨6, by omega, by go_num, HN⟩, hB.alloc hz _⟩
        case measure => simp [intOf] <;> omega
    · have hx := ixH6
      by_cases h1 : 65024 ≤ r
      · by_cases h2 : r ≤ 65039
        · have HT := hide (show R = true by rw [← unhide HR]; unfold hkN hkL; simp; omega)
          have i1 : (65024 : Int) ≤ (r : Int) := by omega
          have i2 : (r : Int) ≤ 65039 := by omega
          clear h1 h2
          go_wp2
          go_ret
          exact ⟨by rw [unhide HT]; rfl, hB.alloc hz _⟩
        · have HN := hide (show hkN r (6 + 1) = false by have := unhide hno; unfold hkN hkL at *; simp at *; omega)
          have i1 : (65024 : Int) ≤ (r : Int) := by omega
          have i2 : ¬ (r : Int) ≤ 65039 := by omega
          clear h1 h2 hno
          go_wp2
          go_roundw
          case rel => exact ⟨⟨7, by omega, by go_num, HN⟩, hB.alloc hz _⟩
          case measure => simp [intOf] <;> omega
      · have HN := hide (show hkN r (6 + 1) = false by have := unhide hno; unfold hkN hkL at *; simp at *; omega)
        have i1 : ¬ (65024 : Int) ≤ (r : Int) := by omega
        clear h1 hno
        go_wp2
        go_roundw
        case rel => exact ⟨⟨7, by omega, by go_num, HN⟩, hB.alloc hz _⟩
        case measure => simp [intOf] <;> omega
    · have hx := ixH7
      by_cases h1 : 65279 ≤ r
      · by_cases h2 : r ≤ 65279
        · have HT := hide (show R = true by rw [← unhide HR]; unfold hkN hkL; simp; omega)
          have i1 : (65279 : Int) ≤ (r : Int) := by omega
          have i2 : (r : Int) ≤ 65279 := by omega
          clear h1 h2
          go_wp2
          go_ret
          exact ⟨by rw [unhide HT]; rfl, hB.alloc hz _⟩
        · have HN := hide (show hkN r (7 + 1) = false by have := unhide hno; unfold hkN hkL at *; simp at *; omega)
          have i1 : (65279 : Int) ≤ (r : Int) := by omega
          have i2 : ¬ (r : Int) ≤ 65279 := by omega
          clear h1 h2 hno
          go_wp2
          go_roundw
          case rel => exact ⟨⟨8, by omega, by go_num, HN⟩, hB.alloc hz _⟩
          case measure => simp [intOf] <;> omega
      · have HN := hide (show hkN r (7 + 1) = false by have := unhide hno; unfold hkN hkL at *; simp at *; omega)
        have i1 : ¬ (65279 : Int) ≤ (r : Int) := by omega
        clear h1 hno
        go_wp2
        go_roundw
        case rel => exact ⟨⟨8, by omega, by go_num, HN⟩, hB.alloc hz _⟩
        case measure => simp [intOf] <;> omega
    · have hx := ixH8
      by_cases h1 : 917504 ≤ r
      · by_cases h2 : r ≤ 1114111
        · have HT := hide (show R = true by rw [← unhide HR]; unfold hkN hkL; simp; omega)
          have i1 : (917504 : Int) ≤ (r : Int) := by omega
          have i2 : (r : Int) ≤ 1114111 := by omega
          clear h1 h2
          go_wp2
          go_ret
          exact ⟨by rw [unhide HT]; rfl, hB.alloc hz _⟩
        · omega
      · have HN := hide (show hkN r (8 + 1) = false by have := unhide hno; unfold hkN hkL at *; simp at *; omega)
        have i1 : ¬ (917504 : Int) ≤ (r : Int) := by omega
        clear h1 hno
        go_wp2
        go_roundw
        case rel => exact ⟨⟨9, by omega, by go_num, HN⟩, hB.alloc hz _⟩
        case measure => simp [intOf] <;> omega
    · have HF := hide (show R = false by rw [← unhide HR]; exact unhide hno)
      clear hno
      go_wp2
      go_ret
      exact ⟨by rw [unhide HF]; rfl, hB⟩

end Go.Proofs.YtkndjbmlkfpfoaaGreatDoor

/-
  Plain facts: the reading of a quoted text, step by step; what is read of a text in quotes is the text.
-/
set_option linter.unusedSimpArgs false
set_option linter.unusedVariables false
namespace Go.Proofs.YtkndjbmlkfpfoaaGreatDoor
open Go.Lib

theorem hxR_snd (s : ByteArray) (i : Nat) : ∀ (f n k : Nat), k ≤ (hxR s i f n k).2 ∧ (hxR s i f n k).2 ≤ k + f ∧ (i + k ≤ s.size → i + (hxR s i f n k).2 ≤ s.size)
  | 0, n, k => by simp [hxR]
  | f + 1, n, k => by
    unfold hxR
    split
    · rename_i h
      have := hxR_snd s i f (16 * n + dgV (by_ s (i + k))) (k + 1)
      refine ⟨by omega, by omega, fun hk => this.2.2 (by omega)⟩
    · exact ⟨Nat.le_refl _, by omega, fun hk => hk⟩

theorem byteE_n {s : ByteArray} {i : Nat} {x : List UInt8} {n : Nat} (h : byteE s i = some (x, n)) : n = 4 ∧ i + 2 ≤ s.size ∧ x.length ≤ 4 := by
  unfold byteE at h
  split at h
  · rename_i h2
    have := (hxR_snd s i 2 0 0)
    by_cases hi : i ≤ s.size
    · cases h
      exact ⟨rfl, by have := this.2.2 (by omega); omega, by simp⟩
    · unfold hxR at h2
      rw [if_neg (by omega)] at h2
      simp at h2
  · cases h

theorem runeE_n {s : ByteArray} {i : Nat} {x : List UInt8} {n : Nat} (h : runeE s i = some (x, n)) : 5 ≤ n ∧ i + n ≤ s.size + 3 ∧ x.length ≤ 4 := by
  unfold runeE at h
  simp only at h
  split at h
  · cases h
  · rename_i h1
    split at h
    · rename_i h2
      simp only [Option.some.injEq, Prod.mk.injEq] at h
      obtain ⟨hx, hn⟩ := h
      rw [← hx]
      exact ⟨by omega, by omega, encL_le4 _⟩
    · cases h

theorem escE_n {s : ByteArray} {i : Nat} {x : List UInt8} {n : Nat} (h : escE s i = some (x, n)) : 2 ≤ n ∧ i + n ≤ s.size ∧ x.length ≤ 4 := by
  unfold escE at h
  split at h
  · rename_i h1
    (repeat' split at h) <;> first
      | (cases h; exact ⟨by omega, by omega, by simp⟩)
      | (have := byteE_n h; exact ⟨by omega, by omega, by omega⟩)
      | (have := runeE_n h; exact ⟨by omega, by omega, by omega⟩)
      | cases h
  · cases h

theorem rdF_fuel (s : ByteArray) : ∀ (f g i : Nat) (acc : List UInt8), s.size ≤ i + f → s.size ≤ i + g → rdF s f i acc = rdF s g i acc
  | 0, 0, i, acc, _, _ => rfl
  | 0, g + 1, i, acc, h, _ => by unfold rdF; rw [if_neg (by omega)]
  | f + 1, 0, i, acc, _, h => by unfold rdF; rw [if_neg (by omega)]
  | f + 1, g + 1, i, acc, h, h2 => by
    unfold rdF
    split
    · rename_i hi
      split
      · rfl
      · split
        · split
          · rfl
          · rename_i x n he
            have := escE_n he
            exact rdF_fuel s f g _ _ (by omega) (by omega)
        · split
          · rfl
          · have := wd_pos s i hi
            exact rdF_fuel s f g _ _ (by omega) (by omega)
    · rfl

/-- the reading from a place on -/
def rdA (s : ByteArray) (i : Nat) (acc : List UInt8) : List UInt8 × Nat × Bool := rdF s (s.size - i) i acc
theorem rdA_zero (s : ByteArray) (i : Nat) : rdE s i = rdA s i [] := rfl
theorem rdA_of (s : ByteArray) (f i : Nat) (acc : List UInt8) (h : s.size ≤ i + f) : rdF s f i acc = rdA s i acc := rdF_fuel s _ _ _ _ h (by omega)

theorem rdA_end {s : ByteArray} {i : Nat} {acc : List UInt8} (h : ¬ i < s.size) : rdA s i acc = ([], s.size, false) := by
  unfold rdA
  cases hc : s.size - i with
  | zero => rfl
  | succ n => omega
theorem rdA_quote {s : ByteArray} {i : Nat} {acc : List UInt8} (h : i < s.size) (h1 : by_ s i = 34) : rdA s i acc = (acc, i + 1, true) := by
  unfold rdA
  obtain ⟨n, hn⟩ : ∃ n, s.size - i = n + 1 := ⟨s.size - i - 1, by omega⟩
  rw [hn]; unfold rdF; rw [if_pos h, if_pos h1]
theorem rdA_none {s : ByteArray} {i : Nat} {acc : List UInt8} (h : i < s.size) (h1 : by_ s i = 92) (he : escE s i = none) : rdA s i acc = ([], i, false) := by
  unfold rdA
  obtain ⟨n, hn⟩ : ∃ n, s.size - i = n + 1 := ⟨s.size - i - 1, by omega⟩
  rw [hn]; unfold rdF; rw [if_pos h, if_neg (by omega), if_pos h1, he]
theorem rdA_some {s : ByteArray} {i : Nat} {acc x : List UInt8} {k : Nat} (h : i < s.size) (h1 : by_ s i = 92) (he : escE s i = some (x, k)) : rdA s i acc = rdA s (i + k) (acc ++ x) := by
  have := escE_n he
  conv => lhs; unfold rdA
  obtain ⟨n, hn⟩ : ∃ n, s.size - i = n + 1 := ⟨s.size - i - 1, by omega⟩
  rw [hn]; unfold rdF; rw [if_pos h, if_neg (by omega), if_pos h1, he]
  exact rdA_of s _ _ _ (by omega)
theorem rdA_raw {s : ByteArray} {i : Nat} {acc : List UInt8} (h : i < s.size) (h1 : by_ s i ≠ 34) (h2 : by_ s i ≠ 92) (hr : rawB s i = true) : rdA s i acc = ([], i, false) := by
  unfold rdA
  obtain ⟨n, hn⟩ : ∃ n, s.size - i = n + 1 := ⟨s.size - i - 1, by omega⟩
  rw [hn]; unfold rdF; rw [if_pos h, if_neg h1, if_neg h2, if_pos hr]
theorem rdA_rune {s : ByteArray} {i : Nat} {acc : List UInt8} (h : i < s.size) (h1 : by_ s i ≠ 34) (h2 : by_ s i ≠ 92) (hr : rawB s i = false) : rdA s i acc = rdA s (i + wd s i) (acc ++ encL (rn s i : Nat)) := by
  have := wd_pos s i h
  conv => lhs; unfold rdA
  obtain ⟨n, hn⟩ : ∃ n, s.size - i = n + 1 := ⟨s.size - i - 1, by omega⟩
  rw [hn]; unfold rdF; rw [if_pos h, if_neg h1, if_neg h2, if_neg (by simp [hr])]
  exact rdA_of s _ _ _ (by omega)

/-- how it ends -/
theorem rdA_bounds (s : ByteArray) (f : Nat) : ∀ (i : Nat) (acc : List UInt8), s.size - i ≤ f → i ≤ s.size → (rdA s i acc).2.1 ≤ s.size ∧ i ≤ (rdA s i acc).2.1 ∧ (rdA s i acc).1.length ≤ acc.length + 4 * (s.size - i) ∧ ((rdA s i acc).2.2 = false → (rdA s i acc).1 = []) ∧ ((rdA s i acc).2.2 = true → i < (rdA s i acc).2.1) := by
  induction f with
  | zero =>
    intro i acc h hi
    rw [rdA_end (by omega)]; exact ⟨Nat.le_refl _, hi, Nat.zero_le _, fun _ => rfl, fun h => by simp at h⟩
  | succ g IH =>
    intro i acc h hi
    by_cases hlt : i < s.size
    · by_cases h1 : by_ s i = 34
      · rw [rdA_quote hlt h1]; exact ⟨hlt, Nat.le_succ _, Nat.le_add_right _ _, fun h => by simp at h, fun _ => Nat.lt_succ_self _⟩
      · by_cases h2 : by_ s i = 92
        · cases he : escE s i with
          | none => rw [rdA_none hlt h2 he]; exact ⟨hi, Nat.le_refl _, Nat.zero_le _, fun _ => rfl, fun h => by simp at h⟩
          | some v =>
            obtain ⟨x, k⟩ := v
            have hn := escE_n he
            rw [rdA_some hlt h2 he]
            have ih := IH (i + k) (acc ++ x) (by omega) (by omega)
            rw [List.length_append] at ih
            exact ⟨ih.1, by omega, by omega, ih.2.2.2.1, fun ht => by have := ih.2.2.2.2 ht; omega⟩
        · cases hr : rawB s i with
          | true => rw [rdA_raw hlt h1 h2 hr]; exact ⟨hi, Nat.le_refl _, Nat.zero_le _, fun _ => rfl, fun h => by simp at h⟩
          | false =>
            have hw := wd_pos s i hlt
            have hw2 := wd_le s i hlt
            have he4 := encL_le4 ((rn s i : Nat) : Int)
            rw [rdA_rune hlt h1 h2 hr]
            have ih := IH (i + wd s i) (acc ++ encL (rn s i : Nat)) (by omega) (by omega)
            rw [List.length_append] at ih
            exact ⟨ih.1, by omega, by omega, ih.2.2.2.1, fun ht => by have := ih.2.2.2.2 ht; omega⟩
    · rw [rdA_end hlt]; exact ⟨Nat.le_refl _, hi, Nat.zero_le _, fun _ => rfl, fun h => by simp at h⟩

end Go.Proofs.YtkndjbmlkfpfoaaGreatDoor

/-
  Plain facts: what is read of a text in quotes is the text; no beginning of it is one; it is good and of one line.
-/
set_option linter.unusedSimpArgs false
set_option linter.unusedVariables false
namespace Go.Proofs.YtkndjbmlkfpfoaaGreatDoor
open Go.Lib

theorem hxD_nat (n : Nat) (h : n < 16) : (hxD n).toNat = if n < 10 then 48 + n else 87 + n := by
  unfold hxD; exact u8n _ (by split <;> omega)
theorem dgV_hxD (n : Nat) (h : n < 16) : dgV (hxD n).toNat = n := by
  rw [hxD_nat n h]; unfold dgV; split <;> (repeat' split) <;> omega

/-- the digits of a number, as numbers -/
def dgF : Nat → Nat → List Nat
  | 0, _ => []
  | f + 1, n => if n = 0 then [] else dgF f (n / 16) ++ [n % 16]
theorem hxF_map : ∀ (f n : Nat), hxF f n = (dgF f n).map hxD
  | 0, n => rfl
  | f + 1, n => by
    unfold hxF dgF
    split
    · rfl
    · rw [hxF_map f (n / 16)]; simp
theorem dgF_lt : ∀ (f n : Nat), ∀ d ∈ dgF f n, d < 16
  | 0, n, d, h => by cases h
  | f + 1, n, d, h => by
    unfold dgF at h
    split at h
    · cases h
    · rcases List.mem_append.1 h with h | h
      · exact dgF_lt f _ d h
      · simp at h; omega
def valF (l : List Nat) (n : Nat) : Nat := l.foldl (fun a d => 16 * a + d) n
theorem valF_append (l m : List Nat) (n : Nat) : valF (l ++ m) n = valF m (valF l n) := by simp [valF]
theorem dgF_val : ∀ (f n : Nat), n ≤ f → valF (dgF f n) 0 = n
  | 0, n, h => by simp [dgF, valF]; omega
  | f + 1, n, h => by
    unfold dgF
    split
    · rename_i h0; simp [valF, h0]
    · rw [valF_append, dgF_val f (n / 16) (by omega)]
      simp [valF]; omega
theorem dgF_len : ∀ (f n k : Nat), n < 16 ^ k → (dgF f n).length ≤ k
  | 0, n, k, h => by simp [dgF]
  | f + 1, n, k, h => by
    unfold dgF
    split
    · simp
    · cases k with
      | zero => simp at h; omega
      | succ k =>
        rw [Nat.pow_succ] at h
        have := dgF_len f (n / 16) k (by omega)
        simp; omega
theorem dgF_head : ∀ (f n : Nat), n ≠ 0 → n ≤ f → ∃ d l, dgF f n = d :: l ∧ d ≠ 0
  | 0, n, h, hf => by omega
  | f + 1, n, h, hf => by
    unfold dgF
    rw [if_neg h]
    by_cases h0 : n / 16 = 0
    · refine ⟨n % 16, [], ?_, by omega⟩
      have : dgF f (n / 16) = [] := by rw [h0]; cases f <;> simp [dgF]
      rw [this]; rfl
    · obtain ⟨d, l, e, hd⟩ := dgF_head f (n / 16) h0 (by omega)
      exact ⟨d, l ++ [n % 16], by rw [e]; rfl, hd⟩

/-- what is read of digits that were laid -/
theorem hxR_laid (p rest : List UInt8) : ∀ (ds : List Nat) (q : List UInt8) (f n : Nat), (∀ d ∈ ds, d < 16) → ds.length ≤ f → (f = ds.length ∨ ∃ c r, rest = c :: r ∧ 16 ≤ dgV c.toNat ∨ rest = []) →
    hxR (ofL (p ++ (q ++ (ds.map hxD ++ rest)))) p.length f n q.length = (valF ds n, q.length + ds.length)
  | [], q, f, n, hd, hf, hr => by
    cases f with
    | zero => simp [hxR, valF]
    | succ f =>
      unfold hxR
      rw [if_neg]
      · simp [valF]
      · rintro ⟨h1, h2⟩
        rcases hr with hr | ⟨c, r, ⟨rfl, hc⟩ | rfl⟩
        · simp at hr
        · have e : p.length + q.length = (p ++ q).length := by simp
          rw [e, show p ++ (q ++ (([] : List Nat).map hxD ++ c :: r)) = (p ++ q) ++ c :: r by simp, ← Nat.add_zero (p ++ q).length, by_at (p ++ q) (c :: r) 0 (by simp)] at h2
          simp at h2; omega
        · rw [ofL_size] at h1; simp at h1
  | d :: ds, q, f, n, hd, hf, hr => by
    cases f with
    | zero => simp at hf
    | succ f =>
      have hd0 := hd d (List.mem_cons_self ..)
      have eL : p ++ (q ++ ((d :: ds).map hxD ++ rest)) = (p ++ q) ++ (hxD d :: (ds.map hxD ++ rest)) := by simp
      have hb : by_ (ofL (p ++ (q ++ ((d :: ds).map hxD ++ rest)))) (p.length + q.length) = (hxD d).toNat := by
        rw [eL, show p.length + q.length = (p ++ q).length + 0 by simp, by_at _ _ 0 (by simp)]; rfl
      unfold hxR
      rw [hb, dgV_hxD d hd0, if_pos ⟨by rw [ofL_size]; simp, hd0⟩]
      have ih := hxR_laid p rest ds (q ++ [hxD d]) f (16 * n + d) (fun x hx => hd x (List.mem_cons_of_mem _ hx)) (by simp at hf; omega) (by
        rcases hr with hr | hr
        · left; simp at hr; omega
        · exact .inr hr)
      have e2 : p ++ (q ++ ((d :: ds).map hxD ++ rest)) = p ++ ((q ++ [hxD d]) ++ (ds.map hxD ++ rest)) := by simp
      rw [e2, show q.length + 1 = (q ++ [hxD d]).length by simp, ih]
      simp [valF]; omega

end Go.Proofs.YtkndjbmlkfpfoaaGreatDoor
