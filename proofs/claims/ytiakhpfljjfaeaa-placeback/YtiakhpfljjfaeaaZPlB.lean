/-
  Places lead back; lines put together are the text: on plain numbers.
-/
import Derived.Test.YtiakhpfljjfaeaaZPlT
import Derived.Test.YtiakhpfljjfaeaaZPlC
import Derived.Test.YtiakhpfljjfaeaaZXLine
set_option linter.unusedSimpArgs false
set_option linter.unusedVariables false
namespace Go.Proofs.Ytiakhpfljjfaeaa

theorem pU_succ (s : ByteArray) (n : Nat) : pU s n < pU s (n + 1) := by have := (pW_pos s (pB s n)).1; show _ < pU s n + _; omega
theorem pU_ge (s : ByteArray) : ∀ n, n ≤ pU s n
  | 0 => Nat.le_refl _
  | n + 1 => by have := pU_ge s n; have := pU_succ s n; omega
theorem at_yes {s : ByteArray} {u : Int} {k : Nat} (hu : 1 ≤ u ∧ u ≤ 4) (hk : k ≤ pN s) {n : Int} (hn : (pQ s u k : Int) = n) (h1 : ∀ j, j < k → ¬ (pQ s u j : Int) = n) : atV s u n = .tuple #[spN s k, .int .i64 0] := by
  have h2 := pQ_mono s u hk (Nat.le_refl _)
  unfold atV
  rw [if_neg (fun h => h hu), if_neg (by omega), atK_eq hk hn h1, if_pos hn]
theorem at_rune {s : ByteArray} {i : Nat} (h : i ≤ pN s) : atV s 2 (i : Nat) = .tuple #[spN s i, .int .i64 0] :=
  at_yes (by omega) h rfl (fun j hj e => by have e1 : (j : Int) = (i : Int) := e; omega)
theorem at_byte {s : ByteArray} {i : Nat} (h : i ≤ pN s) : atV s 1 (pB s i : Nat) = .tuple #[spN s i, .int .i64 0] :=
  at_yes (by omega) h rfl (fun j hj e => by have e1 : (pB s j : Int) = (pB s i : Int) := e; have := pB_inj (show j ≤ pN s by omega) h (by omega); omega)
theorem at_unit {s : ByteArray} {i : Nat} (h : i ≤ pN s) : atV s 3 (pU s i : Nat) = .tuple #[spN s i, .int .i64 0] :=
  at_yes (by omega) h rfl (fun j hj e => by have e1 : (pU s j : Int) = (pU s i : Int) := e; have := smono_of (f := pU s) (N := i) (fun k _ => pU_succ s k) hj (Nat.le_refl _); omega)
theorem at_clump {s : ByteArray} : ∀ {i : Nat}, i ≤ pN s → ∃ k, k ≤ i ∧ atV s 4 (pC s i : Nat) = .tuple #[spN s k, .int .i64 0] ∧ pC s k = pC s i ∧ pB s k ≤ pB s i := by
  intro i hi
  have hq : ∀ k, pQ s 4 k = pC s k := fun k => rfl
  have h1 : ((pC s i : Nat) : Int) ≤ (pQ s 4 (pN s) : Nat) := by have := pQ_mono s 4 hi (Nat.le_refl _); rw [hq] at this; omega
  have hk := atK_le h1
  have hki : atK s 4 (pC s i : Nat) ≤ i := by
    rcases Nat.lt_or_ge i (atK s 4 (pC s i : Nat)) with h | h
    · have := atK_low h; rw [hq] at this; omega
    · exact h
  have h2 := atK_up (s := s) (u := 4) (n := (pC s i : Nat)) (Nat.le_refl _) hk
  have h3 := pQ_mono s 4 hki hi
  rw [hq, hq] at h3
  rw [hq] at h2
  refine ⟨_, hki, at_yes (by omega) hk (by rw [hq]; omega) (fun j hj e => by have := atK_low hj; omega), by omega, pB_mono s hki hi⟩
theorem cell_place {s : ByteArray} {i : Nat} (h : i ≤ pN s) : cellV s (pL s i : Nat) (pK s i : Nat) = if pI s (pB s i) then .tuple #[zeroV, .int .i64 3] else .tuple #[spN s i, .int .i64 0] := by
  unfold cellV
  rw [cellOK_at h rfl rfl, cellK_eq h rfl rfl]
  cases pI s (pB s i) <;> rfl
theorem lineB_one (s : ByteArray) : lineB s 1 = 0 := by
  have h : lineK s 1 = 0 := by
    have h2 : 0 < pN s + 1 := by omega
    exact fpl_eq h2 (fun j hj => by omega) (by simp; have := (pL_le s 0).1; omega)
  unfold lineB
  rw [h, if_pos (Nat.zero_le _)]; rfl
theorem lineB_last (s : ByteArray) : lineB s ((pL s (pN s) : Nat) + 1) = s.size := by
  have h : ¬ lineK s ((pL s (pN s) : Nat) + 1) ≤ pN s := by
    intro h
    have := lineK_up (s := s) (Nat.le_refl _) h
    have := pL_mono s h
    omega
  unfold lineB
  rw [if_neg h]
theorem ext_join (s : ByteArray) {a b : Nat} (hab : a ≤ b) (hb : b ≤ s.size) : s.extract 0 a ++ s.extract a b = s.extract 0 b := by
  rw [ByteArray.extract_append_extract]
  congr 1 <;> omega
theorem ext_all (s : ByteArray) : s.extract 0 s.size = s := ByteArray.extract_zero_size

end Go.Proofs.Ytiakhpfljjfaeaa
