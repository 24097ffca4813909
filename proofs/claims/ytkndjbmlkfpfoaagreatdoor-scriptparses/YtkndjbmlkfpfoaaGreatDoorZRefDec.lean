/-
  What the document's own begins, Decode and Last answer, for every text and every number.
-/
import Derived.Test.YtkndjbmlkfpfoaaGreatDoorZLowToBegD
import Derived.Test.YtkndjbmlkfpfoaaGreatDoorZPureWToPU

set_option linter.unusedSimpArgs false
set_option linter.unusedVariables false
namespace Go.Proofs.YtkndjbmlkfpfoaaGreatDoor
open Go.RowKit Go.Lib

theorem begins_in (s : ByteArray) (k : Nat) (w : World) (hs : s.size ≤ 140737488355328) (hk : k < s.size) :
    Calls Tryz.prog 107 #[.string s, .int .i64 k] w fun e w' => e = .returned (.tuple #[.int .i32 (bR s k), .int .i64 (bN s k)]) ∧ ∃ n, w' = w.drewN n := by
  have hl := by_lt s k
  have up : ∀ {R : Ending → World → Prop}, (∀ e w', R e w' → e = .returned (.tuple #[.int .i32 (bR s k), .int .i64 (bN s k)]) ∧ w = w') → Calls Tryz.prog 107 #[.string s, .int .i64 k] w R → Calls Tryz.prog 107 #[.string s, .int .i64 k] w fun e w' => e = .returned (.tuple #[.int .i32 (bR s k), .int .i64 (bN s k)]) ∧ ∃ n, w' = w.drewN n :=
    fun h c => c.mono fun e w' r => ⟨(h e w' r).1, 0, (h e w' r).2.symm⟩
  rcases (by omega : by_ s k ≤ 127 ∨ (128 ≤ by_ s k ∧ by_ s k ≤ 193) ∨ (194 ≤ by_ s k ∧ by_ s k ≤ 223) ∨ (224 ≤ by_ s k ∧ by_ s k ≤ 224) ∨ (225 ≤ by_ s k ∧ by_ s k ≤ 236) ∨ (237 ≤ by_ s k ∧ by_ s k ≤ 237) ∨ (238 ≤ by_ s k ∧ by_ s k ≤ 239) ∨ (240 ≤ by_ s k ∧ by_ s k ≤ 240) ∨ (241 ≤ by_ s k ∧ by_ s k ≤ 243) ∨ (244 ≤ by_ s k ∧ by_ s k ≤ 244) ∨ (245 ≤ by_ s k ∧ by_ s k ≤ 255)) with h | ⟨h, h'⟩ | ⟨h, h'⟩ | ⟨h, h'⟩ | ⟨h, h'⟩ | ⟨h, h'⟩ | ⟨h, h'⟩ | ⟨h, h'⟩ | ⟨h, h'⟩ | ⟨h, h'⟩ | ⟨h, h'⟩
  · exact up (fun _ _ x => x) (begins_00 s k w hs hk h)
  · exact up (fun _ _ x => x) (begins_A1 s k w hs hk h h')
  · exact up (fun _ _ x => x) (begins_C2 s k w hs hk h h')
  · exact up (fun _ _ x => x) (begins_E0 s k w hs hk h h')
  · exact up (fun _ _ x => x) (begins_E1 s k w hs hk h h')
  · exact up (fun _ _ x => x) (begins_ED s k w hs hk h h')
  · exact up (fun _ _ x => x) (begins_EE s k w hs hk h h')
  · exact begins_F0 s k w hs hk h h'
  · exact begins_F1 s k w hs hk h h'
  · exact begins_F4 s k w hs hk h h'
  · exact up (fun _ _ x => x) (begins_F5 s k w hs hk h h')

set_option maxHeartbeats 1000000 in
theorem refDecode_any (s : ByteArray) (a : Int) (w : World) (hs : s.size ≤ 140737488355328) :
    Calls Tryz.prog 88 #[.string s, .int .i64 a] w fun e w' => e = .returned (.tuple #[.int .i32 (dR s a), .int .i64 (dN s a), .bool (dK s a)]) ∧ ∃ n, w' = w.drewN n := by
  by_cases hlo : a < 0
  · have hc : ¬ (0 ≤ a ∧ a < s.size) := by omega
    have e1 : dR s a = 0 := by unfold dR; rw [if_neg hc]
    have e2 : dN s a = 0 := by unfold dN; rw [if_neg hc]
    have e3 : dK s a = false := by unfold dK; rw [if_neg hc]
    rw [e1, e2, e3]
    go_enter Tryz.func88, Tryz.ntmps88
    go_wp2
    go_ret3
    exact ⟨rfl, 0, rfl⟩
  · by_cases hhi : (s.size : Int) ≤ a
    · have hc : ¬ (0 ≤ a ∧ a < s.size) := by omega
      have e1 : dR s a = 0 := by unfold dR; rw [if_neg hc]
      have e2 : dN s a = 0 := by unfold dN; rw [if_neg hc]
      have e3 : dK s a = false := by unfold dK; rw [if_neg hc]
      rw [e1, e2, e3]
      go_enter Tryz.func88, Tryz.ntmps88
      go_wp2
      go_ret3
      exact ⟨rfl, 0, rfl⟩
    · obtain ⟨k, rfl⟩ := Int.eq_ofNat_of_zero_le (show 0 ≤ a by omega)
      have hk : k < s.size := by omega
      rw [dR_in s k hk, dN_in s k hk, dK_in s k hk]
      have hp := wd_pos s k hk
      cases ho : okR s k with
      | false =>
        obtain ⟨h1, h2⟩ := ok_false_iff ho
        have e1 : bR s k = 0 := by unfold bR; rw [ho]; rfl
        have e2 : bN s k = 0 := by unfold bN; rw [ho]; rfl
        rw [h1, h2]
        go_enter Tryz.func88, Tryz.ntmps88
        go_wp2_with (go_at_call 107; refine (begins_in s k _ hs hk).mono ?_; rintro r w' ⟨rfl, nd, rfl⟩; simp only [e1, e2])
        go_ret3
        exact ⟨rfl, nd, rfl⟩
      | true =>
        have e1 : bR s k = rn s k := by unfold bR; rw [ho]; rfl
        have e2 : bN s k = wd s k := by unfold bN; rw [ho]; rfl
        have hne : ((wd s k : Int) == 0) = false := by rw [beq_eq_false_iff_ne]; omega
        go_enter Tryz.func88, Tryz.ntmps88
        go_wp2_with (go_at_call 107; refine (begins_in s k _ hs hk).mono ?_; rintro r w' ⟨rfl, nd, rfl⟩; simp only [e1, e2])
        go_ret3
        exact ⟨rfl, nd, rfl⟩


end Go.Proofs.YtkndjbmlkfpfoaaGreatDoor
