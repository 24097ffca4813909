/-
  What the document's own begins, Decode and Last answer, for every text and every number.
-/
import Derived.Test.YtnejgbjidonpiaaBegA
import Derived.Test.YtnejgbjidonpiaaBegB
import Derived.Test.YtnejgbjidonpiaaBegC
import Derived.Test.YtnejgbjidonpiaaBegD
import Derived.Test.YtnejgbjidonpiaaLast
import Derived.Test.YtnejgbjidonpiaaPureW
set_option linter.unusedSimpArgs false
set_option linter.unusedVariables false
namespace Go.Proofs.Ytnejgbjidonpiaa
open Go.RowKit Go.Lib

theorem begins_in (s : ByteArray) (k : Nat) (w : World) (hs : s.size ≤ 140737488355328) (hk : k < s.size) :
    Calls Try.prog 37 #[.string s, .int .i64 k] w fun e w' => e = .returned (.tuple #[.int .i32 (bR s k), .int .i64 (bN s k)]) ∧ ∃ n, w' = w.drewN n := by
  have hl := by_lt s k
  have up : ∀ {R : Ending → World → Prop}, (∀ e w', R e w' → e = .returned (.tuple #[.int .i32 (bR s k), .int .i64 (bN s k)]) ∧ w = w') → Calls Try.prog 37 #[.string s, .int .i64 k] w R → Calls Try.prog 37 #[.string s, .int .i64 k] w fun e w' => e = .returned (.tuple #[.int .i32 (bR s k), .int .i64 (bN s k)]) ∧ ∃ n, w' = w.drewN n :=
    fun h c => c.mono fun e w' r => ⟨(h e w' r).1, 0, (h e w' r).2.symm⟩
  rcases (by omega : by_ s k ≤ 127 ∨ (128 ≤ by_ s k ∧ by_ s k ≤ 193) ∨ (194 ≤ by_ s k ∧ by_ s k ≤ 223) ∨ (224 ≤ by_ s k ∧ by_ s k ≤ 224) ∨ (225 ≤ by_ s k ∧ by_ s k ≤ 236) ∨ (237 ≤ by_ s k ∧ by_ s k ≤ 237) ∨ (238 ≤ by_ s k ∧ by_ s k ≤ 239) ∨ (240 ≤ by_ s k ∧ by_ s k ≤ 240) ∨ (241 ≤ by_ s k ∧ by_ s k ≤ 243) ∨ (244 ≤ by_ s k ∧ by_ s k ≤ 244) ∨ (245 ≤ by_ s k ∧ by_ s k ≤ 255)) with h | ⟨h, h'⟩ | ⟨h, h'⟩ | ⟨h, h'⟩ | ⟨h, h'⟩ | ⟨h, h'⟩ | ⟨h, h'⟩ | ⟨h, h'⟩ | ⟨h, h'⟩ | ⟨h, h'⟩ | ⟨h, h'⟩
  · exact up (fun _ _ x => x) (begins_00 s k w hs hk h)
  · exact up (fun _ _ x => x) (begins_A1 s k w hs hk h h')
  · exact up (fun _ _ x => x) (begins_C2 s k w hs hk h h')
  · exact up (fun _ _ x => x) (begins_E0 s k w hs hk h h')
  · exact up (fun _ _ x => x) (begins_E1 s k w hs hk h h')
  · exact up (fun _ _ x => x) (begins_ED s k w hs hk h h')
  · exact up (fun _ _ x => x) (begins_EE s k w hs hk h h')
  · exact begins_F0 s k w hs hk h h'
  · exact begins_F1 s k w hs hk h h'
  · exact begins_F4 s k w hs hk h h'
  · exact up (fun _ _ x => x) (begins_F5 s k w hs hk h h')

set_option maxHeartbeats 1000000 in
theorem refDecode_any (s : ByteArray) (a : Int) (w : World) (hs : s.size ≤ 140737488355328) :
    Calls Try.prog 11 #[.string s, .int .i64 a] w fun e w' => e = .returned (.tuple #[.int .i32 (dR s a), .int .i64 (dN s a), .bool (dK s a)]) ∧ ∃ n, w' = w.drewN n := by
  by_cases hlo : a < 0
  · have hc : ¬ (0 ≤ a ∧ a < s.size) := by omega
    have e1 : dR s a = 0 := by unfold dR; rw [if_neg hc]
    have e2 : dN s a = 0 := by unfold dN; rw [if_neg hc]
    have e3 : dK s a = false := by unfold dK; rw [if_neg hc]
    rw [e1, e2, e3]
    go_enter Try.func11, Try.ntmps11
    go_wp2
    go_ret3
    exact ⟨rfl, 0, rfl⟩
  · by_cases hhi : (s.size : Int) ≤ a
    · have hc : ¬ (0 ≤ a ∧ a < s.size) := by omega
      have e1 : dR s a = 0 := by unfold dR; rw [if_neg hc]
      have e2 : dN s a = 0 := by unfold dN; rw [if_neg hc]
      have e3 : dK s a = false := by unfold dK; rw [if_neg hc]
      rw [e1, e2, e3]
      go_enter Try.func11, Try.ntmps11
      go_wp2
      go_ret3
      exact ⟨rfl, 0, rfl⟩
    · obtain ⟨k, rfl⟩ := Int.eq_ofNat_of_zero_le (show 0 ≤ a by omega)
      have hk : k < s.size := by omega
      rw [dR_in s k hk, dN_in s k hk, dK_in s k hk]
      have hp := wd_pos s k hk
      cases ho : okR s k with
      | false =>
        obtain ⟨h1, h2⟩ := ok_false_iff ho
        have e1 : bR s k = 0 := by unfold bR; rw [ho]; rfl
        have e2 : bN s k = 0 := by unfold bN; rw [ho]; rfl
        rw [h1, h2]
        go_enter Try.func11, Try.ntmps11
        go_wp2_with (go_at_call 37; refine (begins_in s k _ hs hk).mono ?_; rintro r w' ⟨rfl, nd, rfl⟩; simp only [e1, e2])
        go_ret3
        exact ⟨rfl, nd, rfl⟩
      | true =>
        have e1 : bR s k = rn s k := by unfold bR; rw [ho]; rfl
        have e2 : bN s k = wd s k := by unfold bN; rw [ho]; rfl
        have hne : ((wd s k : Int) == 0) = false := by rw [beq_eq_false_iff_ne]; omega
        go_enter Try.func11, Try.ntmps11
        go_wp2_with (go_at_call 37; refine (begins_in s k _ hs hk).mono ?_; rintro r w' ⟨rfl, nd, rfl⟩; simp only [e1, e2])
        go_ret3
        exact ⟨rfl, nd, rfl⟩

theorem refLast_out (s : ByteArray) (a : Int) (w : World) (hs : s.size ≤ 140737488355328) (h : a < 1 ∨ s.size < a) :
    Calls Try.prog 13 #[.string s, .int .i64 a] w fun e w' => e = .returned (.tuple #[.int .i32 0, .int .i64 0, .bool false]) ∧ ∃ n, w' = w.drewN n := by
  rcases h with h | h
  · go_enter Try.func13, Try.ntmps13
    go_wp2
    go_ret3
    exact ⟨rfl, 0, rfl⟩
  · have h' : ¬ a < 1 := by omega
    go_enter Try.func13, Try.ntmps13
    go_wp2
    go_ret3
    exact ⟨rfl, 0, rfl⟩

set_option maxHeartbeats 1000000 in
theorem refLast_in (s : ByteArray) (e : Nat) (w : World) (hs : s.size ≤ 140737488355328) (h1 : 1 ≤ e) (h2 : e ≤ s.size) :
    Calls Try.prog 13 #[.string s, .int .i64 e] w fun r w' => r = .returned (.tuple #[.int .i32 (lR s (e : Nat)), .int .i64 (lN s (e : Nat)), .bool (lK s (e : Nat))]) ∧ ∃ n, w' = w.drewN n := by
  have hd1 : decide ((e : Int) < 1) = false := by simp; omega
  have hd2 : decide (s.size < e) = false := by simp; omega
  go_enter Try.func13, Try.ntmps13
  go_wp2
  go_loopw [7] (fun i wr => (∃ n : Nat, 1 ≤ n ∧ n ≤ 5 ∧ n ≤ e + 1 ∧ i = .int .i64 n ∧ Hid (∀ m, 1 ≤ m → m < n → fit s e m = false)) ∧ ∃ d, wr = w.drewN d) (fun i _ => 6 - (intOf i).toNat)
  case atStart => exact ⟨⟨1, by omega, by omega, by omega, rfl, hide (fun m a b => by omega)⟩, 0, rfl⟩
  case round =>
    obtain ⟨⟨n, hn1, hn5, hne, rfl, hb⟩, d, rfl⟩ := hrel
    by_cases hlt : n ≤ 4 ∧ n ≤ e
    · obtain ⟨hn4, hnle⟩ := hlt
      have hp := wd_pos s (e - n) (by omega)
      have hfe : fit s e n = (okR s (e - n) && (wd s (e - n) == n)) := by unfold fit; rw [decide_eq_true ⟨hn1, hnle⟩]; rfl
      have Hfe := hide hfe
      clear hfe
      cases hok : okR s (e - n) with
      | false =>
        have e1 : bR s (e - n) = 0 := by unfold bR; rw [hok]; rfl
        have e2 : bN s (e - n) = 0 := by unfold bN; rw [hok]; rfl
        have h0 : ((0 : Int) == (n : Int)) = false := by rw [beq_eq_false_iff_ne]; omega
        go_wp2_with (go_at_call 37; rw [show ((e : Int) - (n : Int)) = ((e - n : Nat) : Int) from by omega]; refine (begins_in s (e - n) _ hs (by omega)).mono ?_; rintro r w' ⟨rfl, nd, rfl⟩; simp only [e1, e2])
        go_roundw
        case rel => exact ⟨⟨n + 1, by omega, by omega, by omega, by go_num, hide (fun m a b => by
          by_cases hm : m = n
          · subst hm; rw [unhide Hfe, hok]; rfl
          · exact unhide hb m a (by omega))⟩, _, rfl⟩
        case measure => simp [intOf]; omega
      | true =>
        have e1 : bR s (e - n) = rn s (e - n) := by unfold bR; rw [hok]; rfl
        have e2 : bN s (e - n) = wd s (e - n) := by unfold bN; rw [hok]; rfl
        by_cases hwd : wd s (e - n) = n
        · have hwb : ((wd s (e - n) : Int) == (n : Int)) = true := by rw [beq_iff_eq]; omega
          have hl := lastW_hit hn1 hn4 (by rw [unhide Hfe, hok, hwd]; simp) (unhide hb)
          have Hl := hide hl
          have Hw := hide hwd
          clear hl hwd
          go_wp2_with (go_at_call 37; rw [show ((e : Int) - (n : Int)) = ((e - n : Nat) : Int) from by omega]; refine (begins_in s (e - n) _ hs (by omega)).mono ?_; rintro r w' ⟨rfl, nd, rfl⟩; simp only [e1, e2])
          go_ret3
          exact ⟨ret_last h1 h2 (by rw [unhide Hl, if_neg (by omega)]) (by rw [unhide Hl, if_neg (by omega)]) (by rw [unhide Hl, decide_eq_true (by omega)]), _, rfl⟩
        · have hwb : ((wd s (e - n) : Int) == (n : Int)) = false := by rw [beq_eq_false_iff_ne]; omega
          have Hw := hide hwd
          clear hwd
          go_wp2_with (go_at_call 37; rw [show ((e : Int) - (n : Int)) = ((e - n : Nat) : Int) from by omega]; refine (begins_in s (e - n) _ hs (by omega)).mono ?_; rintro r w' ⟨rfl, nd, rfl⟩; simp only [e1, e2])
          go_roundw
          case rel => exact ⟨⟨n + 1, by omega, by omega, by omega, by go_num, hide (fun m a b => by
            by_cases hm : m = n
            · subst hm; rw [unhide Hfe, hok]; simpa using unhide Hw
            · exact unhide hb m a (by omega))⟩, _, rfl⟩
          case measure => simp [intOf]; omega
    · have hl : lastW s e = 0 := lastW_none (fun m a b => by
        by_cases hm : m < n
        · exact unhide hb m a hm
        · exact fit_far (by omega))
      have Hl := hide hl
      clear hl
      by_cases h4 : n ≤ 4
      all_goals
        go_wp2
        go_ret3
        exact ⟨ret_last h1 h2 (by rw [unhide Hl, if_pos rfl]) (by rw [unhide Hl, if_pos rfl]) (by rw [unhide Hl]; rfl), _, rfl⟩

theorem refLast_any (s : ByteArray) (a : Int) (w : World) (hs : s.size ≤ 140737488355328) :
    Calls Try.prog 13 #[.string s, .int .i64 a] w fun e w' => e = .returned (.tuple #[.int .i32 (lR s a), .int .i64 (lN s a), .bool (lK s a)]) ∧ ∃ n, w' = w.drewN n := by
  by_cases h : 1 ≤ a ∧ a ≤ s.size
  · obtain ⟨k, rfl⟩ := Int.eq_ofNat_of_zero_le (show 0 ≤ a by omega)
    exact refLast_in s k w hs (by omega) (by omega)
  · unfold lR lN lK
    rw [if_neg h, if_neg h, if_neg h]
    exact refLast_out s a w hs (by omega)

end Go.Proofs.Ytnejgbjidonpiaa
