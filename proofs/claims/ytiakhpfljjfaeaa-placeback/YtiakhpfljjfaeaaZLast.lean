/-
  What glyph.Last answers, for every text and every number.
-/
import Derived.Test.YtiakhpfljjfaeaaZDecAll
namespace Go.Proofs.Ytiakhpfljjfaeaa
open Go.RowKit Go.Lib

theorem ret_last {s : ByteArray} {e : Nat} {a b : Int} {o : Bool} (h1 : 1 ≤ e) (h2 : e ≤ s.size) (ha : a = if lastW s e = 0 then 65533 else (rn s (e - lastW s e) : Int)) (hb : b = if lastW s e = 0 then 1 else (lastW s e : Int)) (ho : o = decide (lastW s e ≠ 0)) :
    Ending.returned (.tuple #[.int .i32 a, .int .i64 b, .bool o]) = .returned (.tuple #[.int .i32 (lR s (e : Nat)), .int .i64 (lN s (e : Nat)), .bool (lK s (e : Nat))]) := by
  have hc : (1 : Int) ≤ (e : Int) ∧ (e : Int) ≤ s.size := by omega
  unfold lR lN lK
  rw [if_pos hc, if_pos hc, if_pos hc, Int.toNat_natCast, ha, hb, ho]

set_option maxHeartbeats 400000 in
theorem last_out (s : ByteArray) (a : Int) (w : World) (hs : s.size ≤ maxLen) (h : a < 1 ∨ s.size < a) :
    Calls Try.prog 72 #[.string s, .int .i64 a] w fun e w' => e = .returned (.tuple #[.int .i32 0, .int .i64 0, .bool false]) ∧ w = w' := by
  unfold maxLen at hs
  rcases h with h | h
  · go_enter Try.func72, Try.ntmps72
    go_wp2
    go_ret3
    exact ⟨rfl, rfl⟩
  · have h' : ¬ a < 1 := by omega
    go_enter Try.func72, Try.ntmps72
    go_wp2
    go_ret3
    exact ⟨rfl, rfl⟩

set_option maxHeartbeats 1000000 in
theorem last_in (s : ByteArray) (e : Nat) (w : World) (hs : s.size ≤ maxLen) (h1 : 1 ≤ e) (h2 : e ≤ s.size) :
    Calls Try.prog 72 #[.string s, .int .i64 e] w fun r w' => r = .returned (.tuple #[.int .i32 (lR s (e : Nat)), .int .i64 (lN s (e : Nat)), .bool (lK s (e : Nat))]) ∧ w = w' := by
  have hs0 := hs
  unfold maxLen at hs
  have hd1 : decide ((e : Int) < 1) = false := by simp; omega
  have hd2 : decide (s.size < e) = false := by simp; omega
  go_enter Try.func72, Try.ntmps72
  go_wp2
  go_loop [7] (fun i => ∃ n : Nat, 1 ≤ n ∧ n ≤ 5 ∧ n ≤ e + 1 ∧ i = .int .i64 n ∧ Hid (∀ m, 1 ≤ m → m < n → fit s e m = false)) (fun i => 6 - (intOf i).toNat)
  case atStart => exact ⟨1, by omega, by omega, by omega, rfl, hide (fun m a b => by omega)⟩
  case round =>
    obtain ⟨n, hn1, hn5, hne, rfl, hb⟩ := hrel
    by_cases hlt : n ≤ 4 ∧ n ≤ e
    · obtain ⟨hn4, hnle⟩ := hlt
      have hfe : fit s e n = (okR s (e - n) && (wd s (e - n) == n)) := by unfold fit; rw [decide_eq_true ⟨hn1, hnle⟩]; rfl
      have Hfe := hide hfe
      clear hfe
      by_cases h4 : e < 4
      all_goals
        cases hok : okR s (e - n) with
        | false =>
          go_wp2_with (go_at_call 21; rw [show ((e : Int) - (n : Int)) = ((e - n : Nat) : Int) from by omega]; refine (decode_in s (e - n) _ hs0 (by omega)).mono ?_; rintro r w' ⟨rfl, rfl⟩)
          go_round
          case rel => exact ⟨n + 1, by omega, by omega, by omega, by go_num, hide (fun m a b => by
            by_cases hm : m = n
            · subst hm; rw [unhide Hfe, hok]; rfl
            · exact unhide hb m a (by omega))⟩
          case measure => simp [intOf]; omega
        | true =>
          by_cases hwd : wd s (e - n) = n
          · have hwb : ((wd s (e - n) : Int) == (n : Int)) = true := by rw [beq_iff_eq]; omega
            have hl := lastW_hit hn1 hn4 (by rw [unhide Hfe, hok, hwd]; simp) (unhide hb)
            have Hl := hide hl
            have Hw := hide hwd
            clear hl hwd
            go_wp2_with (go_at_call 21; rw [show ((e : Int) - (n : Int)) = ((e - n : Nat) : Int) from by omega]; refine (decode_in s (e - n) _ hs0 (by omega)).mono ?_; rintro r w' ⟨rfl, rfl⟩)
            go_ret3
            exact ⟨ret_last h1 h2 (by rw [unhide Hl, if_neg (by omega)]) (by rw [unhide Hl, if_neg (by omega), unhide Hw]) (by rw [unhide Hl, decide_eq_true (by omega)]), rfl⟩
          · have hwb : ((wd s (e - n) : Int) == (n : Int)) = false := by rw [beq_eq_false_iff_ne]; omega
            have Hw := hide hwd
            clear hwd
            go_wp2_with (go_at_call 21; rw [show ((e : Int) - (n : Int)) = ((e - n : Nat) : Int) from by omega]; refine (decode_in s (e - n) _ hs0 (by omega)).mono ?_; rintro r w' ⟨rfl, rfl⟩)
            go_round
            case rel => exact ⟨n + 1, by omega, by omega, by omega, by go_num, hide (fun m a b => by
              by_cases hm : m = n
              · subst hm; rw [unhide Hfe, hok]; simpa using unhide Hw
              · exact unhide hb m a (by omega))⟩
            case measure => simp [intOf]; omega
    · have hl : lastW s e = 0 := lastW_none (fun m a b => by
        by_cases hm : m < n
        · exact unhide hb m a hm
        · exact fit_far (by omega))
      have Hl := hide hl
      clear hl
      by_cases h4 : e < 4
      all_goals
        go_wp2
        go_ret3
        exact ⟨ret_last h1 h2 (by rw [unhide Hl, if_pos rfl]) (by rw [unhide Hl, if_pos rfl]) (by rw [unhide Hl]; rfl), rfl⟩

/-- glyph.Last, at every text and every number. -/
theorem last_any (s : ByteArray) (a : Int) (w : World) (hs : s.size ≤ maxLen) :
    Calls Try.prog 72 #[.string s, .int .i64 a] w fun e w' => e = .returned (.tuple #[.int .i32 (lR s a), .int .i64 (lN s a), .bool (lK s a)]) ∧ w = w' := by
  by_cases h : 1 ≤ a ∧ a ≤ s.size
  · obtain ⟨k, rfl⟩ := Int.eq_ofNat_of_zero_le (show 0 ≤ a by omega)
    exact last_in s k w hs (by omega) (by omega)
  · unfold lR lN lK
    rw [if_neg h, if_neg h, if_neg h]
    exact last_out s a w hs (by omega)

end Go.Proofs.Ytiakhpfljjfaeaa
