/-
  The document's own: how many units a piece has, where a line's end ends, a spot's number of a unit; the breaks ahead of a place.
-/
import Derived.Test.YtjgkkkfonioplaaZRBr
import Derived.Test.YtjgkkkfonioplaaZRUs
import Derived.Test.YtjgkkkfonioplaaZXMap
import Derived.Test.YtjgkkkfonioplaaZXPlace
import Derived.BigQuiet
set_option linter.unusedSimpArgs false
set_option linter.unusedVariables false
namespace Go.Proofs.Ytjgkkkfonioplaa
open Go.RowKit Go.Lib

/-- clumps that end at a place or ahead of it are the breaks there -/
theorem pC_count (s : ByteArray) : ∀ n, n ≤ pN s → pC s n = (brL s).countP (fun b => decide (0 < b) && decide (b ≤ pB s n))
  | 0, _ => by
    refine (List.countP_eq_zero.2 fun b _ => ?_).symm
    show ¬ (decide (0 < b) && decide (b ≤ 0)) = true
    simp; omega
  | n + 1, h => by
    have ih := pC_count s n (by omega)
    have hlt := pB_succ (s := s) (n := n) h
    have hsp : ∀ l : List Nat, l.Pairwise (· < ·) → (∀ q ∈ l, Sync s q ∧ q ≤ s.size) → l.countP (fun b => decide (0 < b) && decide (b ≤ pB s (n + 1))) = l.countP (fun b => decide (0 < b) && decide (b ≤ pB s n)) + if pB s (n + 1) ∈ l then 1 else 0 := by
      intro l
      induction l with
      | nil => intro _ _; rfl
      | cons b l il =>
        intro hp hq
        have i1 := il (List.pairwise_cons.1 hp).2 (fun q hm => hq q (List.mem_cons_of_mem _ hm))
        rw [List.countP_cons, List.countP_cons, i1]
        have hb := hq b (List.mem_cons_self ..)
        by_cases e : b = pB s (n + 1)
        · have hnm : ¬ pB s (n + 1) ∈ l := fun hm => by
            have := (List.pairwise_cons.1 hp).1 _ hm
            omega
          subst e
          rw [if_neg hnm, if_pos (List.mem_cons_self ..), decide_eq_true (show 0 < pB s (n + 1) by omega), decide_eq_true (Nat.le_refl _), decide_eq_false (show ¬ pB s (n + 1) ≤ pB s n by omega)]
          simp
        · have hm : (pB s (n + 1) ∈ b :: l) = (pB s (n + 1) ∈ l) := by
            apply propext
            rw [List.mem_cons]
            exact ⟨fun h => h.resolve_left (fun h => e h.symm), .inr⟩
          simp only [hm]
          have hk : decide (b ≤ pB s (n + 1)) = decide (b ≤ pB s n) := by
            by_cases h1 : b ≤ pB s n
            · rw [decide_eq_true h1, decide_eq_true (by omega)]
            · rw [decide_eq_false h1, decide_eq_false]
              intro h2
              have hps := (pN_iff s n).1 h
              have h3 : okR s (pB s n) = true → pB s n + wd s (pB s n) ≤ b := fun ho => hb.1 _ (by omega) ho
              have h4 : pB s (n + 1) = pB s n + wd s (pB s n) := rfl
              cases ho : okR s (pB s n) with
              | true => have := h3 ho; omega
              | false => have := (ok_false_iff ho).2; omega
          rw [hk]
          omega
    rw [hsp (brL s) (brL_sorted s) (fun q hm => ⟨brL_sync hm, brL_le hm⟩), ← ih]
    rw [pC]

set_option maxHeartbeats 1000000 in
theorem wide_in (v0 r v2 : Int) (k : Bool) (w : World) :
    Calls Try.prog 44 #[.agg #[.int .i64 v0, .int .i32 r, .int .i64 v2, .bool k]] w fun e w' => e = .returned (.int .i64 (if 65536 ≤ r then 2 else 1)) ∧ Below w.heap.size w w' := by
  by_cases h : 65536 ≤ r
  · rw [if_pos h]
    go_enter Try.func44, Try.ntmps44
    go_wp2
    go_ret
    exact ⟨rfl, (Below.refl _ w).alloc (Nat.le_refl _) _⟩
  · rw [if_neg h]
    go_enter Try.func44, Try.ntmps44
    go_wp2
    go_ret
    exact ⟨rfl, (Below.refl _ w).alloc (Nat.le_refl _) _⟩

set_option maxHeartbeats 1000000 in
theorem known3_in (u : Int) (w : World) : Calls Try.prog 42 #[.int .i64 u] w fun e w' => e = .returned (.bool (decide (1 ≤ u ∧ u ≤ 4))) ∧ w' = w := by
  by_cases h1 : 1 ≤ u
  · by_cases h2 : u ≤ 4
    · rw [decide_eq_true ⟨h1, h2⟩]
      go_enter Try.func42, Try.ntmps42
      go_wp2
      go_ret
      exact ⟨rfl, rfl⟩
    · rw [decide_eq_false (fun h => h2 h.2)]
      go_enter Try.func42, Try.ntmps42
      go_wp2
      go_ret
      exact ⟨rfl, rfl⟩
  · rw [decide_eq_false (fun h => h1 h.1)]
    go_enter Try.func42, Try.ntmps42
    go_wp2
    go_ret
    exact ⟨rfl, rfl⟩

set_option maxHeartbeats 1000000 in
theorem count3_in (b r u c l k un : Int) (w : World) :
    Calls Try.prog 41 #[.agg #[.int .i64 b, .int .i64 r, .int .i64 u, .int .i64 c, .int .i64 l, .int .i64 k], .int .i64 un] w fun e w' => e = .returned (.int .i64 (if un = 1 then b else if un = 2 then r else if un = 3 then u else c)) ∧ Below w.heap.size w w' := by
  by_cases h1 : un = 1
  · subst h1
    rw [if_pos rfl]
    go_enter Try.func41, Try.ntmps41
    go_wp2
    go_ret
    exact ⟨rfl, (Below.refl _ w).alloc (Nat.le_refl _) _⟩
  · by_cases h2 : un = 2
    · subst h2
      rw [if_neg (by decide), if_pos rfl]
      go_enter Try.func41, Try.ntmps41
      go_wp2
      go_ret
      exact ⟨rfl, (Below.refl _ w).alloc (Nat.le_refl _) _⟩
    · by_cases h3 : un = 3
      · subst h3
        rw [if_neg (by decide), if_neg (by decide), if_pos rfl]
        go_enter Try.func41, Try.ntmps41
        go_wp2
        go_ret
        exact ⟨rfl, (Below.refl _ w).alloc (Nat.le_refl _) _⟩
      · rw [if_neg h1, if_neg h2, if_neg h3]
        go_enter Try.func41, Try.ntmps41
        go_wp2
        go_ret
        exact ⟨rfl, (Below.refl _ w).alloc (Nat.le_refl _) _⟩
/-- a place's number -/
theorem count_at (s : ByteArray) (n : Nat) (u : Int) (w : World) : Calls Try.prog 41 #[spN s n, .int .i64 u] w fun e w' => e = .returned (.int .i64 (pQ s u n : Nat)) ∧ Below w.heap.size w w' := by
  have e : ((pQ s u n : Nat) : Int) = if u = 1 then ((pB s n : Nat) : Int) else if u = 2 then ((n : Nat) : Int) else if u = 3 then ((pU s n : Nat) : Int) else ((pC s n : Nat) : Int) := by
    unfold pQ; (repeat' split) <;> rfl
  rw [e]
  exact count3_in _ _ _ _ _ _ u w

set_option maxRecDepth 100000 in
set_option maxHeartbeats 2000000 in
theorem ends_in (s : ByteArray) (n g cap Bx : Nat) (w : World) (hn : n < pN s) (hs : s.size ≤ 1000000) (ho : w.ownsRow Bx 67 4 (.slice (some ⟨g, 0, none⟩) (pN s) cap) (pN s) (pcsC s (allL s))) :
    Calls Try.prog 45 #[.slice (some ⟨g, 0, none⟩) (pN s) cap, .int .i64 (n : Nat)] w fun e w' => e = .returned (.bool (pE s (pB s n))) ∧ w' = w := by
  have hN := pN_le s
  have hE := pE_iff hn
  have c1 := pcs_cell ho (pB_get hn) 1 (by omega)
  change w.cell? ⟨g, n * 4 + 1, none⟩ = some (.int .i32 (rn s (pB s n) : Nat)) at c1
  have c2 : n + 1 < pN s → w.cell? ⟨g, (n + 1) * 4 + 1, none⟩ = some (.int .i32 (rn s (pB s (n + 1)) : Nat)) := fun h => pcs_cell ho (pB_get h) 1 (by omega)
  have hgl := World.block_lt_of_cell? _ _ c1
  simp only at hgl
  obtain ⟨R, hR⟩ : ∃ R, rn s (pB s n) = R := ⟨_, rfl⟩
  rw [hR] at c1 hE
  have i1 : (n : Int) < (pN s : Int) := by omega
  by_cases h10 : R = 10
  · rw [hE.2 (.inl h10)]
    subst h10
    clear hE c2 ho hR
    go_enter Try.func45, Try.ntmps45
    go_wp2
    go_ret
    exact ⟨rfl, rfl⟩
  · by_cases h13 : R = 13
    · subst h13
      by_cases hl : n + 1 < pN s
      · have c3 := c2 hl
        obtain ⟨R2, hR2⟩ : ∃ R2, rn s (pB s (n + 1)) = R2 := ⟨_, rfl⟩
        rw [hR2] at c3 hE
        have i2 : ((n : Int) + 1 == (pN s : Int)) = false := by rw [beq_eq_false_iff_ne]; omega
        have i3 : (n : Int) + 1 < (pN s : Int) := by omega
        have i4 : ((n : Int) + 1).toNat = n + 1 := by omega
        have i5 : (0 : Int) ≤ (n : Int) + 1 := by omega
        by_cases h2 : R2 = 10
        · have : pE s (pB s n) = false := by
            rw [← Bool.not_eq_true, hE]
            rintro (h | ⟨_, h⟩)
            · omega
            · exact h ⟨hl, h2⟩
          rw [this]
          subst h2
          clear hE c2 ho hR hR2
          go_enter Try.func45, Try.ntmps45
          go_wp2
          go_ret
          exact ⟨rfl, rfl⟩
        · rw [hE.2 (.inr ⟨rfl, fun h => h2 h.2⟩)]
          have j0 : (((R2 : Nat) : Int) != 10) = true := by simp; omega
          clear hE c2 ho hR hR2
          go_enter Try.func45, Try.ntmps45
          go_wp2
          go_ret
          exact ⟨rfl, rfl⟩
      · rw [hE.2 (.inr ⟨rfl, fun h => hl h.1⟩)]
        have i2 : ((n : Int) + 1 == (pN s : Int)) = true := by rw [beq_iff_eq]; omega
        clear hE c2 ho hR
        go_enter Try.func45, Try.ntmps45
        go_wp2
        go_ret
        exact ⟨rfl, rfl⟩
    · have : pE s (pB s n) = false := by
        rw [← Bool.not_eq_true, hE]
        rintro (h | ⟨h, _⟩)
        · exact h10 h
        · exact h13 h
      rw [this]
      clear hE c2 ho hR
      have j1 : (((R : Nat) : Int) == 10) = false := by simp; omega
      have j2 : (((R : Nat) : Int) == 13) = false := by simp; omega
      go_enter Try.func45, Try.ntmps45
      go_wp2
      go_ret
      exact ⟨rfl, rfl⟩

end Go.Proofs.Ytjgkkkfonioplaa
