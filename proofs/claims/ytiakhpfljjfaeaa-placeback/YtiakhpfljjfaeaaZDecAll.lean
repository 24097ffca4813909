/-
  glyph.Decode at every text and every place of it.
-/
import Derived.Test.YtiakhpfljjfaeaaZXDec
import Derived.Test.YtiakhpfljjfaeaaZXPure
namespace Go.Proofs.Ytiakhpfljjfaeaa
open Go.RowKit Go.Lib

/-- glyph.Decode, at every place of a text. -/
theorem decode_in (s : ByteArray) (k : Nat) (w : World) (hs : s.size ≤ maxLen) (hk : k < s.size) :
    Calls Try.prog 21 #[.string s, .int .i64 k] w fun e w' => e = .returned (.tuple #[.int .i32 (rn s k : Nat), .int .i64 (wd s k : Nat), .bool (okR s k)]) ∧ w = w' := by
  have h4 := hW_le (by_ s k)
  by_cases h1 : by_ s k ≤ 127
  · refine (decode_one s k w hs hk h1).mono ?_
    rintro e w' ⟨rfl, rfl⟩
    have hd := dec_one s k h1
    exact ⟨ret_dec hd rfl rfl (ok_one hd (by omega)), rfl⟩
  · by_cases h0 : hW (by_ s k) = 0
    · refine (decode_bad s k w hs hk (.inl h0)).mono ?_
      rintro e w' ⟨rfl, rfl⟩
      have hd := dec_bad s k h0
      exact ⟨ret_dec hd rfl rfl (ok_bad hd), rfl⟩
    · by_cases hn : s.size - k < hW (by_ s k)
      · refine (decode_bad s k w hs hk (.inr hn)).mono ?_
        rintro e w' ⟨rfl, rfl⟩
        have hd := dec_short s k hk hn
        exact ⟨ret_dec hd rfl rfl (ok_bad hd), rfl⟩
      · have hne : hW (by_ s k) ≠ 1 := by unfold hW; (repeat' split) <;> omega
        have hc : hW (by_ s k) = 2 ∨ hW (by_ s k) = 3 ∨ hW (by_ s k) = 4 := by omega
        rcases hc with hc | hc | hc
        · exact decode_two s k w hs hk hc (by omega)
        · exact decode_three s k w hs hk hc (by omega)
        · exact decode_four s k w hs hk hc (by omega)


/-- glyph.Decode, at every text and every number. -/
theorem decode_any (s : ByteArray) (a : Int) (w : World) (hs : s.size ≤ maxLen) :
    Calls Try.prog 21 #[.string s, .int .i64 a] w fun e w' => e = .returned (.tuple #[.int .i32 (dR s a), .int .i64 (dN s a), .bool (dK s a)]) ∧ w = w' := by
  unfold dR dN dK
  by_cases h : 0 ≤ a ∧ a < s.size
  · rw [if_pos h, if_pos h, if_pos h]
    obtain ⟨k, rfl⟩ := Int.eq_ofNat_of_zero_le h.1
    rw [Int.toNat_natCast]
    exact decode_in s k w hs (by omega)
  · rw [if_neg h, if_neg h, if_neg h]
    exact decode_out s a w hs (by omega)


end Go.Proofs.Ytiakhpfljjfaeaa
