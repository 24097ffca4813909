/-
  The document's own answers of lengths, lines and numbers.
-/
import Derived.Test.YtjgkkkfonioplaaZR3b
import Derived.Test.YtjgkkkfonioplaaZPlT
import Derived.Test.YtjgkkkfonioplaaZXLine

set_option linter.unusedSimpArgs false
set_option linter.unusedVariables false
namespace Go.Proofs.Ytjgkkkfonioplaa
open Go.RowKit Go.Lib

/-- what Len answers -/
def lenV (s : ByteArray) (u : Int) : Value := if 1 ≤ u ∧ u ≤ 4 then .tuple #[.int .i64 (pQ s u (pN s) : Nat), .int .i64 0] else .tuple #[.int .i64 0, .int .i64 1]
theorem len_in (s : ByteArray) (p : Nat) (u : Int) (w : World) (hs : s.size ≤ 1000000) (hm : MapAt s p w) :
    Calls Try.prog 14 #[.pointer (some ⟨p, 0, none⟩), .int .i64 u] w fun e w' => e = .returned (lenV s u) ∧ Below w.heap.size w w' := by
  unfold lenV
  by_cases h : 1 ≤ u ∧ u ≤ 4
  · rw [if_pos h]; exact len_known s p u w hs hm h
  · rw [if_neg h]; exact len_none _ u w (.inr h)

/-- a row's six cells -/
theorem sp_six {s : ByteArray} {g cap n : Nat} {W : World} (h : ∀ n, n ≤ pN s → ∀ j u, (spC s n)[j]? = some u → W.cell? ⟨g, n * 6 + j, none⟩ = some u) (hn : n ≤ pN s) :
    W.cell? ⟨g, n * 6, none⟩ = some (.int .i64 (pB s n : Nat)) ∧ W.cell? ⟨g, n * 6 + 1, none⟩ = some (.int .i64 (n : Nat)) ∧ W.cell? ⟨g, n * 6 + 2, none⟩ = some (.int .i64 (pU s n : Nat)) ∧ W.cell? ⟨g, n * 6 + 3, none⟩ = some (.int .i64 (pC s n : Nat)) ∧ W.cell? ⟨g, n * 6 + 4, none⟩ = some (.int .i64 (pL s n : Nat)) ∧ W.cell? ⟨g, n * 6 + 5, none⟩ = some (.int .i64 (pK s n : Nat)) :=
  ⟨h n hn 0 _ rfl, h n hn 1 _ rfl, h n hn 2 _ rfl, h n hn 3 _ rfl, h n hn 4 _ rfl, h n hn 5 _ rfl⟩

set_option maxRecDepth 100000 in
set_option maxHeartbeats 2000000 in
theorem refLines_in (s : ByteArray) (hs : s.size ≤ 1000000) (w : World) :
    Calls Try.prog 10 #[.string s] w fun e w' => e = .returned (.int .i64 (pL s (pN s) : Nat)) ∧ Below w.heap.size w w' := by
  have hN := pN_le s
  obtain ⟨L, hL⟩ : ∃ L, pL s (pN s) = L := ⟨_, rfl⟩
  rw [hL]
  have HL := hide hL
  clear hL
  go_enter Try.func10, Try.ntmps10
  go_wp2_with fail
  refine (spots_in s hs _).mono ?_
  rintro e W1 ⟨v, rfl, ⟨g, cap, rfl, hc⟩, hB⟩
  obtain ⟨c0, c1, c2, c3, c4, c5⟩ := sp_six (cap := cap) hc (Nat.le_refl _)
  clear hc
  have e1 : (((pN s + 1 : Nat) : Int) - 1) = ((pN s : Nat) : Int) := by omega
  have e2 : ((pN s : Nat) : Int) + 1 - 1 = ((pN s : Nat) : Int) := by omega
  have e3 : ((pN s : Nat) : Int) < ((pN s + 1 : Nat) : Int) := by omega
  have e4 : ((pN s : Nat) : Int) < ((pN s : Nat) : Int) + 1 := by omega
  obtain ⟨NN, hNN⟩ : ∃ NN, pN s = NN := ⟨_, rfl⟩
  rw [unhide HL] at c4
  rw [hNN] at c4 e1 e2 e3 e4 hN ⊢
  clear HL hNN c0 c1 c2 c3 c5
  go_wp2
  go_ret
  exact ⟨rfl, hB⟩

set_option maxRecDepth 100000 in
set_option maxHeartbeats 2000000 in
theorem refLen_known (s : ByteArray) (u : Int) (hs : s.size ≤ 1000000) (hu : 1 ≤ u ∧ u ≤ 4) (w : World) :
    Calls Try.prog 24 #[.string s, .int .i64 u] w fun e w' => e = .returned (.tuple #[.int .i64 (pQ s u (pN s) : Nat), .int .i64 0]) ∧ Below w.heap.size w w' := by
  have hN := pN_le s
  have hkn := fun w => hide (known3_in u w)
  rw [decide_eq_true hu] at hkn
  have hcnt := fun w => hide (count_at s (pN s) u w)
  obtain ⟨Q, hQ⟩ : ∃ Q, pQ s u (pN s) = Q := ⟨_, rfl⟩
  rw [hQ] at hcnt ⊢
  clear hu hQ
  go_enter Try.func24, Try.ntmps24
  go_wp2_with (first | (go_at_call 42; refine (unhide (hkn _)).mono ?_; rintro e w1 ⟨rfl, rfl⟩) | (go_at_call 26; fail))
  refine (spots_in s hs _).mono ?_
  rintro e W1 ⟨v, rfl, ⟨g, cap, rfl, hc⟩, hB⟩
  obtain ⟨c0, c1, c2, c3, c4, c5⟩ := sp_six (cap := cap) hc (Nat.le_refl _)
  clear hc
  have e1 : (((pN s + 1 : Nat) : Int) - 1) = ((pN s : Nat) : Int) := by omega
  have e2 : ((pN s : Nat) : Int) + 1 - 1 = ((pN s : Nat) : Int) := by omega
  have e3 : ((pN s : Nat) : Int) < ((pN s + 1 : Nat) : Int) := by omega
  have e4 : ((pN s : Nat) : Int) < ((pN s : Nat) : Int) + 1 := by omega
  rw [show spN s (pN s) = .agg #[.int .i64 (pB s (pN s) : Nat), .int .i64 (pN s : Nat), .int .i64 (pU s (pN s) : Nat), .int .i64 (pC s (pN s) : Nat), .int .i64 (pL s (pN s) : Nat), .int .i64 (pK s (pN s) : Nat)] from rfl] at hcnt
  generalize pB s (pN s) = v0 at c0 hcnt
  generalize pU s (pN s) = v2 at c2 hcnt
  generalize pC s (pN s) = v3 at c3 hcnt
  generalize pL s (pN s) = v4 at c4 hcnt
  generalize pK s (pN s) = v5 at c5 hcnt
  obtain ⟨NN, hNN⟩ : ∃ NN, pN s = NN := ⟨_, rfl⟩
  rw [hNN] at c0 c1 c2 c3 c4 c5 e1 e2 e3 e4 hN hcnt ⊢
  clear hNN
  go_wp2_with (go_at_call 41; refine (unhide (hcnt _)).mono ?_; rintro e w1 ⟨rfl, hb1⟩)
  go_ret2
  exact ⟨rfl, bnext hB hb1⟩

set_option maxRecDepth 100000 in
set_option maxHeartbeats 2000000 in
theorem refLen_none (s : ByteArray) (u : Int) (hu : ¬ (1 ≤ u ∧ u ≤ 4)) (w : World) :
    Calls Try.prog 24 #[.string s, .int .i64 u] w fun e w' => e = .returned (.tuple #[.int .i64 0, .int .i64 1]) ∧ Below w.heap.size w w' := by
  have hkn := fun w => hide (known3_in u w)
  rw [decide_eq_false hu] at hkn
  clear hu
  go_enter Try.func24, Try.ntmps24
  go_wp2_with (go_at_call 42; refine (unhide (hkn _)).mono ?_; rintro e w1 ⟨rfl, rfl⟩)
  go_ret2
  exact ⟨rfl, Below.refl _ _⟩
theorem refLen_in (s : ByteArray) (u : Int) (hs : s.size ≤ 1000000) (w : World) :
    Calls Try.prog 24 #[.string s, .int .i64 u] w fun e w' => e = .returned (lenV s u) ∧ Below w.heap.size w w' := by
  unfold lenV
  by_cases h : 1 ≤ u ∧ u ≤ 4
  · rw [if_pos h]; exact refLen_known s u hs h w
  · rw [if_neg h]; exact refLen_none s u h w

end Go.Proofs.Ytjgkkkfonioplaa

/-
  The document's own At.
-/
set_option linter.unusedSimpArgs false
set_option linter.unusedVariables false
namespace Go.Proofs.Ytjgkkkfonioplaa
open Go.RowKit Go.Lib

set_option maxRecDepth 100000 in
set_option maxHeartbeats 2000000 in
theorem refAt_arg (s : ByteArray) (u n : Int) (hu : ¬ (1 ≤ u ∧ u ≤ 4)) (w : World) :
    Calls Try.prog 23 #[.string s, .int .i64 u, .int .i64 n] w fun e w' => e = .returned (.tuple #[zeroV, .int .i64 1]) ∧ Below w.heap.size w w' := by
  have hL := fun w => hide (refLen_none s u hu w)
  have hB0 : ∀ A : Obj, Below w.heap.size w (w.alloc A) := fun A => (Below.refl _ w).alloc (Nat.le_refl _) _
  have b6 := Box6.new w (.int .i64 0) (.int .i64 0) (.int .i64 0) (.int .i64 0) (.int .i64 0) (.int .i64 0)
  clear hu
  go_enter Try.func23, Try.ntmps23
  go_wp2_with (go_at_call 24; refine (unhide (hL _)).mono ?_; rintro e w1 ⟨rfl, hb1⟩; obtain ⟨c0, c1, c2, c3, c4, c5, f0, f1, f2, f3, f4, f5⟩ := (b6.below hb1).facts)
  refine bodyPost_ret (v := .tuple #[zeroV, .int .i64 1]) ?_ rfl ⟨rfl, ?_⟩
  · simp [results, Try.f23, go_sem, zeroV, spV, *]
  · exact bset6 (bnext (hB0 _) hb1) (by omega) _ _ _ _ _ _

set_option maxRecDepth 100000 in
set_option maxHeartbeats 2000000 in
theorem refAt_out (s : ByteArray) (u n : Int) (hs : s.size ≤ 1000000) (hu : 1 ≤ u ∧ u ≤ 4) (hn : n < 0 ∨ (pQ s u (pN s) : Nat) < n) (w : World) :
    Calls Try.prog 23 #[.string s, .int .i64 u, .int .i64 n] w fun e w' => e = .returned (.tuple #[zeroV, .int .i64 3]) ∧ Below w.heap.size w w' := by
  have hL := fun w => hide (refLen_known s u hs hu w)
  have hB0 : ∀ A : Obj, Below w.heap.size w (w.alloc A) := fun A => (Below.refl _ w).alloc (Nat.le_refl _) _
  have b6 := Box6.new w (.int .i64 0) (.int .i64 0) (.int .i64 0) (.int .i64 0) (.int .i64 0) (.int .i64 0)
  obtain ⟨q, hq⟩ : ∃ q : Nat, pQ s u (pN s) = q := ⟨_, rfl⟩
  rw [hq] at hn hL
  clear hu hq hs
  by_cases h1 : n < 0
  · clear hn
    go_enter Try.func23, Try.ntmps23
    go_wp2_with (go_at_call 24; refine (unhide (hL _)).mono ?_; rintro e w1 ⟨rfl, hb1⟩; obtain ⟨c0, c1, c2, c3, c4, c5, f0, f1, f2, f3, f4, f5⟩ := (b6.below hb1).facts)
    refine bodyPost_ret (v := .tuple #[zeroV, .int .i64 3]) ?_ rfl ⟨rfl, ?_⟩
    · simp [results, Try.f23, go_sem, zeroV, spV, *]
    · exact bset6 (bnext (hB0 _) hb1) (by omega) _ _ _ _ _ _
  · have h2 : (q : Int) < n := by omega
    clear hn
    go_enter Try.func23, Try.ntmps23
    go_wp2_with (go_at_call 24; refine (unhide (hL _)).mono ?_; rintro e w1 ⟨rfl, hb1⟩; obtain ⟨c0, c1, c2, c3, c4, c5, f0, f1, f2, f3, f4, f5⟩ := (b6.below hb1).facts)
    refine bodyPost_ret (v := .tuple #[zeroV, .int .i64 3]) ?_ rfl ⟨rfl, ?_⟩
    · simp [results, Try.f23, go_sem, zeroV, spV, *]
    · exact bset6 (bnext (hB0 _) hb1) (by omega) _ _ _ _ _ _

set_option maxRecDepth 100000 in
set_option maxHeartbeats 4000000 in
theorem refAt_fnd (s : ByteArray) (u n : Int) (hs : s.size ≤ 1000000) (hu : 1 ≤ u ∧ u ≤ 4) (hn0 : 0 ≤ n) (hn : n ≤ (pQ s u (pN s) : Nat)) (w : World) :
    Calls Try.prog 23 #[.string s, .int .i64 u, .int .i64 n] w fun e w' => e = .returned (if (pQ s u (atK s u n) : Nat) = n then .tuple #[spN s (atK s u n), .int .i64 0] else .tuple #[zeroV, .int .i64 4]) ∧ Below w.heap.size w w' := by
  have hN := pN_le s
  have hL := fun w => hide (refLen_known s u hs hu w)
  have hB0 : ∀ A : Obj, Below w.heap.size w (w.alloc A) := fun A => (Below.refl _ w).alloc (Nat.le_refl _) _
  have b6 := Box6.new w (.int .i64 0) (.int .i64 0) (.int .i64 0) (.int .i64 0) (.int .i64 0) (.int .i64 0)
  obtain ⟨R, hR⟩ : ∃ R, (if (pQ s u (atK s u n) : Nat) = n then .tuple #[spN s (atK s u n), .int .i64 0] else .tuple #[zeroV, .int .i64 4] : Value) = R := ⟨_, rfl⟩
  rw [hR]
  have hyes : ∀ k, k ≤ pN s → (pQ s u k : Int) = n → (∀ j, j < k → ¬ (pQ s u j : Int) = n) → R = .tuple #[spN s k, .int .i64 0] := fun k hk h1 h2 => by
    rw [← hR, atK_eq hk h1 h2, if_pos h1]
  have hno : (∀ j, j < pN s + 1 → ¬ (pQ s u j : Int) = n) → R = .tuple #[zeroV, .int .i64 4] := fun h => by
    rw [← hR, if_neg (h _ (by have := atK_le hn; omega))]
  have Hyes := hide hyes
  have Hno := hide hno
  obtain ⟨q, hq⟩ : ∃ q : Nat, pQ s u (pN s) = q := ⟨_, rfl⟩
  rw [hq] at hn hL
  have q1 : ¬ n < 0 := by omega
  have q2 : ¬ (q : Int) < n := by omega
  have hcnt := fun k w => hide (count_at s k u w)
  clear hyes hno hR hu hq hn hn0
  go_enter Try.func23, Try.ntmps23
  go_wp2_with (first | (go_at_call 24; refine (unhide (hL _)).mono ?_; rintro e w1 ⟨rfl, hb1⟩) | (go_at_call 26; fail))
  refine (spots_in s hs _).mono ?_
  rintro e W1 ⟨v, rfl, ⟨g, cap, rfl, hc⟩, hbW⟩
  have hB1 := bnext (bnext (hB0 _) hb1) hbW
  have b61 := (b6.below hb1).below hbW
  have hsix := fun k (hk : k ≤ pN s) W (hW : Below W1.heap.size W1 W) => sp_six (cap := cap) (fun n hn j u hu => cell_below (hc n hn j u hu) hW) hk
  have Hsix := hide hsix
  have Hs := hide hs
  obtain ⟨NN, hNN⟩ : ∃ NN, pN s = NN := ⟨_, rfl⟩
  have HNN := hide hNN
  rw [hNN] at hN ⊢
  have hN6 : NN ≤ 1000000 := by omega
  clear hc hsix hNN hb1 hbW b6 hB0 hL hs q1 q2
  go_wp2_with fail
  go_loopw [11] (fun iv wr => ∃ i : Nat, i ≤ NN + 1 ∧ iv = .int .i64 (i : Nat) ∧ Hid (∀ j, j < i → ¬ (pQ s u j : Int) = n) ∧ Below W1.heap.size W1 wr) (fun iv _ => NN + 1 - (RowKit.intOf iv).toNat)
  case atStart => exact ⟨0, by omega, rfl, hide (fun j h => by omega), Below.refl _ _⟩
  case round =>
    obtain ⟨i, hi, rfl, hne, hBr⟩ := hrel
    obtain ⟨d0, d1, d2, d3, d4, d5, f0, f1, f2, f3, f4, f5⟩ := (b61.below hBr).facts
    by_cases hlt : i < NN + 1
    · obtain ⟨c0, c1, c2, c3, c4, c5⟩ := unhide Hsix i (by rw [unhide HNN]; omega) wr hBr
      have hcn := fun W (hW : Below wr.heap.size wr W) => unhide Hsix i (by rw [unhide HNN]; omega) W (bnext hBr hW)
      have Hcn := hide hcn
      have hci := hide (unhide (hcnt i wr))
      rw [show spN s i = .agg #[.int .i64 (pB s i : Nat), .int .i64 (i : Nat), .int .i64 (pU s i : Nat), .int .i64 (pC s i : Nat), .int .i64 (pL s i : Nat), .int .i64 (pK s i : Nat)] from rfl] at hci
      have hye : (pQ s u i : Int) = n → R = .tuple #[.agg #[.int .i64 (pB s i : Nat), .int .i64 (i : Nat), .int .i64 (pU s i : Nat), .int .i64 (pC s i : Nat), .int .i64 (pL s i : Nat), .int .i64 (pK s i : Nat)], .int .i64 0] := fun h => unhide Hyes i (by rw [unhide HNN]; omega) h (unhide hne)
      have Hne : Hid (¬ (pQ s u i : Int) = n → ∀ j, j < i + 1 → ¬ (pQ s u j : Int) = n) := hide (fun h j hj => by
        rcases (by omega : j < i ∨ j = i) with h1 | h1
        · exact unhide hne j h1
        · rw [h1]; exact h)
      obtain ⟨Q, hQ⟩ : ∃ Q, pQ s u i = Q := ⟨_, rfl⟩
      rw [hQ] at hci hye Hne
      generalize pB s i = v0 at c0 hci hye Hcn
      generalize pU s i = v2 at c2 hci hye Hcn
      generalize pC s i = v3 at c3 hci hye Hcn
      generalize pL s i = v4 at c4 hci hye Hcn
      generalize pK s i = v5 at c5 hci hye Hcn
      have i1 : (i : Int) < ((NN + 1 : Nat) : Int) := by omega
      have i2 : (i : Int) < (NN : Int) + 1 := by omega
      have i3 : (0 : Int) ≤ (i : Int) := by omega
      have Hye := hide hye
      clear hye hQ hne hcn
      by_cases hQn : (Q : Int) = n
      · have hRv := hide (unhide Hye hQn)
        subst hQn
        clear Hye Hne
        go_wp2_with (go_at_call 41; refine (unhide hci).mono ?_; rintro e w2 ⟨rfl, hb2⟩; obtain ⟨c0, c1, c2, c3, c4, c5⟩ := unhide Hcn _ hb2; obtain ⟨d0, d1, d2, d3, d4, d5, f0, f1, f2, f3, f4, f5⟩ := ((b61.below hBr).below hb2).facts)
        refine bodyPost_ret (v := .tuple #[.agg #[.int .i64 (v0 : Nat), .int .i64 (i : Nat), .int .i64 (v2 : Nat), .int .i64 (v3 : Nat), .int .i64 (v4 : Nat), .int .i64 (v5 : Nat)], .int .i64 0]) ?_ rfl ⟨by rw [unhide hRv], ?_⟩
        · simp [results, Try.f23, go_sem, *]
        · exact bset6 (bnext (bnext hB1 hBr) hb2) (by omega) _ _ _ _ _ _
      · have hq3 : ((Q : Int) == n) = false := by simpa using hQn
        have hNx := hide (unhide Hne hQn)
        clear Hye Hne hQn
        go_wp2_with (go_at_call 41; refine (unhide hci).mono ?_; rintro e w2 ⟨rfl, hb2⟩)
        go_roundw
        case rel => exact ⟨i + 1, by omega, by go_num, hNx, bnext hBr hb2⟩
        case measure => simp [RowKit.intOf]; omega
    · have hRv := hide (unhide Hno (fun j hj => unhide hne j (by have := unhide HNN; omega)))
      have i1 : ¬ (i : Int) < ((NN + 1 : Nat) : Int) := by omega
      have i2 : ¬ (i : Int) < (NN : Int) + 1 := by omega
      clear hne Hyes Hno
      go_wp2
      refine bodyPost_ret (v := .tuple #[zeroV, .int .i64 4]) ?_ rfl ⟨by rw [unhide hRv], ?_⟩
      · simp [results, Try.f23, go_sem, zeroV, spV, *]
      · exact bset6 (bnext hB1 hBr) (by omega) _ _ _ _ _ _

theorem refAt_in (s : ByteArray) (u n : Int) (hs : s.size ≤ 1000000) (w : World) :
    Calls Try.prog 23 #[.string s, .int .i64 u, .int .i64 n] w fun e w' => e = .returned (atV s u n) ∧ Below w.heap.size w w' := by
  unfold atV
  by_cases hu : 1 ≤ u ∧ u ≤ 4
  · rw [if_neg (fun h => h hu)]
    by_cases hn : n < 0 ∨ (pQ s u (pN s) : Nat) < n
    · rw [if_pos hn]; exact refAt_out s u n hs hu hn w
    · rw [if_neg hn]; exact refAt_fnd s u n hs hu (by omega) (by omega) w
  · rw [if_pos hu]; exact refAt_arg s u n hu w

end Go.Proofs.Ytjgkkkfonioplaa

/-
  The document's own Line.
-/
set_option linter.unusedSimpArgs false
set_option linter.unusedVariables false
namespace Go.Proofs.Ytjgkkkfonioplaa
open Go.RowKit Go.Lib

set_option maxRecDepth 100000 in
set_option maxHeartbeats 2000000 in
theorem refLine_no (s : ByteArray) (n : Int) (hs : s.size ≤ 1000000) (h : n < 1 ∨ (pL s (pN s) : Nat) < n) (w : World) :
    Calls Try.prog 25 #[.string s, .int .i64 n] w fun e w' => e = .returned (.tuple #[.string ⟨#[]⟩, .int .i64 3]) ∧ Below w.heap.size w w' := by
  have hL := fun w => hide (refLines_in s hs w)
  obtain ⟨M, hM⟩ : ∃ M, pL s (pN s) = M := ⟨_, rfl⟩
  rw [hM] at hL h
  clear hM hs
  by_cases h1 : n < 1
  · clear h
    go_enter Try.func25, Try.ntmps25
    go_wp2
    go_ret2
    exact ⟨rfl, Below.refl _ _⟩
  · have h2 : (M : Int) < n := by omega
    clear h
    go_enter Try.func25, Try.ntmps25
    go_wp2_with (go_at_call 10; refine (unhide (hL _)).mono ?_; rintro e w1 ⟨rfl, hb1⟩)
    go_ret2
    exact ⟨rfl, hb1⟩

/-- the byte of the first place from i on that is on a further line; the text's end, if there is none -/
def toN (s : ByteArray) (K NN i : Nat) : Nat := if K ≤ NN then (if i ≤ K then pB s K else if i ≤ NN then pB s i else s.size) else s.size
theorem toN_top (s : ByteArray) (K NN : Nat) : toN s K NN (NN + 1) = s.size := by
  unfold toN
  by_cases h : K ≤ NN
  · rw [if_pos h, if_neg (by omega), if_neg (by omega)]
  · rw [if_neg h]
theorem toN_in (s : ByteArray) {K NN j : Nat} (h1 : K ≤ j) (h2 : j ≤ NN) : toN s K NN j = pB s j := by
  unfold toN
  rw [if_pos (by omega)]
  by_cases h : j ≤ K
  · rw [if_pos h, show K = j by omega]
  · rw [if_neg h, if_pos h2]
theorem toN_out (s : ByteArray) {K NN j : Nat} (h1 : j < K) : toN s K NN j = toN s K NN (j + 1) := by
  unfold toN
  by_cases h : K ≤ NN
  · rw [if_pos h, if_pos h, if_pos (by omega), if_pos (by omega)]
  · rw [if_neg h, if_neg h]
theorem toN_zero (s : ByteArray) (K NN : Nat) : toN s K NN 0 = if K ≤ NN then pB s K else s.size := by
  unfold toN
  by_cases h : K ≤ NN
  · rw [if_pos h, if_pos (by omega), if_pos h]
  · rw [if_neg h, if_neg h]

set_option maxRecDepth 100000 in
set_option maxHeartbeats 4000000 in
theorem refLine_yes (s : ByteArray) (n : Int) (hs : s.size ≤ 1000000) (h1 : 1 ≤ n) (h2 : n ≤ (pL s (pN s) : Nat)) (w : World) :
    Calls Try.prog 25 #[.string s, .int .i64 n] w fun e w' => e = .returned (.tuple #[.string (s.extract (lineB s n) (lineB s (n + 1))), .int .i64 0]) ∧ Below w.heap.size w w' := by
  have hN := pN_le s
  have hL := fun w => hide (refLines_in s hs w)
  obtain ⟨hl1, _⟩ := lineK_is h1 h2
  have hlk := lineK_le h2
  have hlb : lineB s n = pB s (lineK s n) := by unfold lineB; rw [if_pos hlk]
  -- the first place of the line and of the next one
  have hfrom : ∀ i, i ≤ pN s → (pL s i : Int) = n → lineK s n ≤ i := fun i hi h => by
    rcases Nat.lt_or_ge i (lineK s n) with h3 | h3
    · have := lineK_low h3; omega
    · exact h3
  have hstep : ∀ i : Nat, i ≤ pN s → ((pL s i : Int) > n ↔ lineK s (n + 1) ≤ i) := fun i hi => by
    constructor
    · intro h
      rcases Nat.lt_or_ge i (lineK s (n + 1)) with h3 | h3
      · have := lineK_low h3; omega
      · exact h3
    · intro h
      have := lineK_up h hi
      omega
  have hmid : ∀ i : Nat, lineK s n ≤ i → i ≤ pN s → ¬ (pL s i : Int) > n → (pL s i : Int) = n := fun i h3 h4 h5 => by
    have := lineK_up h3 h4
    omega
  have hlow : ∀ i : Nat, i < lineK s n → (pL s i : Int) < n := fun i h => lineK_low h
  have hkk := lineK_mono (s := s) (show n ≤ n + 1 by omega)
  have hl0 : lineK s n < lineK s (n + 1) := by
    rcases Nat.lt_or_ge (lineK s n) (lineK s (n + 1)) with h | h
    · exact h
    · have := (hstep _ hlk).2 h; omega
  have hto0 : lineB s (n + 1) = if lineK s (n + 1) ≤ pN s then pB s (lineK s (n + 1)) else s.size := rfl
  have hle1 := lineB_mono (s := s) (show n ≤ n + 1 by omega)
  have hle2 := lineB_le s (n + 1)
  obtain ⟨T, hT⟩ : ∃ T, s.extract (lineB s n) (lineB s (n + 1)) = T := ⟨_, rfl⟩
  rw [hT]
  have HT := hide hT
  obtain ⟨M, hM⟩ : ∃ M, pL s (pN s) = M := ⟨_, rfl⟩
  rw [hM] at hL h2
  have i1 : ¬ n < 1 := by omega
  have i2 : ¬ (M : Int) < n := by omega
  have hsz : s.size ≤ maxLen := by unfold maxLen; omega
  have Hf := hide hfrom
  have Hs := hide hstep
  have Hm := hide hmid
  have Hw := hide hlow
  have Hto := hide hto0
  have Hlb := hide hlb
  have Hl0 := hide hl0
  clear hT hM hl1 hl0 hfrom hstep hmid hlow hto0 hlb
  go_enter Try.func25, Try.ntmps25
  go_wp2_with (first | (go_at_call 10; refine (unhide (hL _)).mono ?_; rintro e w1 ⟨rfl, hb1⟩) | (go_at_call 26; fail))
  refine (spots_in s hs _).mono ?_
  rintro e W1 ⟨v, rfl, ⟨g, cap, rfl, hc⟩, hbW⟩
  have hB1 := bnext hb1 hbW
  have hsix := fun k (hk : k ≤ pN s) => sp_six (cap := cap) hc hk
  have Hsix := hide hsix
  obtain ⟨NN, hNN⟩ : ∃ NN, pN s = NN := ⟨_, rfl⟩
  have HNN := hide hNN
  rw [hNN] at hN hlk ⊢
  have hN6 : NN ≤ 1000000 := by omega
  clear hc hsix hNN hb1 hbW hL i1 i2
  have e1 : (((NN + 1 : Nat) : Int) - 1) = ((NN : Nat) : Int) := by omega
  have e2 : ((NN : Nat) : Int) + 1 - 1 = ((NN : Nat) : Int) := by omega
  go_wp2_with fail
  obtain ⟨K, hK⟩ : ∃ K, lineK s (n + 1) = K := ⟨_, rfl⟩
  obtain ⟨K0, hK0⟩ : ∃ K0, lineK s n = K0 := ⟨_, rfl⟩
  rw [hK] at Hs Hto hkk Hl0
  rw [hK0] at Hf Hm Hw hlk hkk Hlb Hl0
  rw [unhide HNN] at Hf Hs Hm Hto Hsix
  obtain ⟨LB, hLB⟩ : ∃ LB, lineB s n = LB := ⟨_, rfl⟩
  obtain ⟨TB, hTB⟩ : ∃ TB, lineB s (n + 1) = TB := ⟨_, rfl⟩
  rw [hLB] at HT Hlb hle1
  rw [hTB] at HT Hto hle1 hle2
  clear hK hK0 hLB hTB
  go_loopw [7, 8, 9] (fun fv tv iv wr => ∃ i : Nat, i ≤ NN + 1 ∧ iv = .int .i64 ((i : Int) - 1) ∧ tv = .int .i64 (toN s K NN i : Nat) ∧ (∃ z : Int, fv = .int .i64 z ∧ Hid (i ≤ K0 → z = (LB : Nat))) ∧ wr = W1) (fun _ _ iv _ => ((RowKit.intOf iv) + 1).toNat)
  case atStart =>
    exact ⟨NN + 1, by omega, by simp, by rw [toN_top], ⟨_, rfl, hide (fun h => by omega)⟩, rfl⟩
  case round =>
    obtain ⟨i, hi, rfl, rfl, ⟨z, rfl, hz⟩, rfl⟩ := hrel
    cases i with
    | zero =>
      have hzl : z = (LB : Nat) := unhide hz (by omega)
      subst hzl
      rw [toN_zero, ← unhide Hto]
      clear hz Hto Hf Hs Hm Hw Hsix Hlb
      have j1 : (LB : Int) ≤ (TB : Int) := by omega
      have j2 : (TB : Int) ≤ (s.size : Int) := by omega
      have j3 : (((0 : Nat) : Int) - 1) = -1 := by omega
      rw [j3]
      go_wp2
      go_ret2
      exact ⟨by rw [← unhide HT]; rfl, hB1⟩
    | succ j =>
      have j3 : (((j + 1 : Nat) : Int) - 1) = (j : Int) := by omega
      rw [j3]
      obtain ⟨c0, c1, c2, c3, c4, c5⟩ := unhide Hsix j (by omega)
      have hjI : (0 : Int) ≤ (j : Int) := by omega
      have i1 : (j : Int) < ((NN + 1 : Nat) : Int) := by omega
      have i2 : (j : Int) < (NN : Int) + 1 := by omega
      have hgt := unhide Hs j (by omega)
      have hmd := unhide Hm j
      have hlw := unhide Hw j
      have hfr := unhide Hf j (by omega)
      have hpj : j = K0 → pB s j = LB := fun e => by rw [e, unhide Hlb]
      clear c1 c2 c3 c5
      have hK0K := unhide Hl0
      obtain ⟨PL, hPL⟩ : ∃ PL, pL s j = PL := ⟨_, rfl⟩
      obtain ⟨PB, hPB⟩ : ∃ PB, pB s j = PB := ⟨_, rfl⟩
      rw [hPL] at c4 hgt hmd hlw hfr
      rw [hPB] at c0 hpj
      by_cases hKj : K ≤ j
      · have g1 := hgt.2 hKj
        have ht := hide (toN_in s hKj (show j ≤ NN by omega))
        rw [hPB] at ht
        have g2 : decide (n < (PL : Int)) = true := decide_eq_true g1
        have g3 : ((PL : Int) == n) = false := by rw [beq_eq_false_iff_ne]; omega
        have Hz : Hid (j ≤ K0 → z = (LB : Nat)) := hide (fun h => by omega)
        have Hz2 : Hid (j ≤ K0 → ((PB : Nat) : Int) = (LB : Nat)) := hide (fun h => by omega)
        clear hgt hmd hlw hfr hpj hPL hPB hz g1 hKj hK0K
        generalize toN s K NN (j + 1) = tt
        go_wp2
        go_roundw
        case rel => exact ⟨j, by omega, by go_num, by rw [unhide ht], ⟨_, rfl, Hz⟩, by trivial⟩
        case measure => first | (simp [RowKit.intOf]; done) | (simp [RowKit.intOf]; omega)
      · have g1 : ¬ (PL : Int) > n := fun h => hKj (hgt.1 h)
        have g2 : decide (n < (PL : Int)) = false := decide_eq_false (by omega)
        have ht := hide (toN_out s (K := K) (NN := NN) (j := j) (by omega))
        by_cases hj0 : K0 ≤ j
        · have g4 : (PL : Int) = n := by have := hmd hj0 (by omega); omega
          have g3 : ((PL : Int) == n) = true := by rw [beq_iff_eq]; exact g4
          have Hz2 : Hid (j ≤ K0 → ((PB : Nat) : Int) = (LB : Nat)) := hide (fun h => by rw [hpj (by omega)])
          clear hgt hmd hlw hfr hpj hPL hPB hz g1 hKj hK0K g4 hj0
          obtain ⟨tt, htt⟩ : ∃ tt, toN s K NN (j + 1) = tt := ⟨_, rfl⟩
          rw [htt] at ht ⊢
          clear htt
          go_wp2
          go_roundw
          case rel => exact ⟨j, by omega, by go_num, by rw [unhide ht], ⟨_, rfl, Hz2⟩, by trivial⟩
          case measure => first | (simp [RowKit.intOf]; done) | (simp [RowKit.intOf]; omega)
        · have g4 := hlw (by omega)
          have g3 : ((PL : Int) == n) = false := by rw [beq_eq_false_iff_ne]; omega
          have Hz2 : Hid (j ≤ K0 → z = (LB : Nat)) := hide (fun h => unhide hz (by omega))
          clear hgt hmd hlw hfr hpj hPL hPB hz g1 hKj hK0K g4 hj0
          obtain ⟨tt, htt⟩ : ∃ tt, toN s K NN (j + 1) = tt := ⟨_, rfl⟩
          rw [htt] at ht ⊢
          clear htt
          go_wp2
          go_roundw
          case rel => exact ⟨j, by omega, by go_num, by rw [unhide ht], ⟨_, rfl, Hz2⟩, by trivial⟩
          case measure => first | (simp [RowKit.intOf]; done) | (simp [RowKit.intOf]; omega)

theorem refLine_in (s : ByteArray) (n : Int) (hs : s.size ≤ 1000000) (w : World) :
    Calls Try.prog 25 #[.string s, .int .i64 n] w fun e w' => e = .returned (lineV s n) ∧ Below w.heap.size w w' := by
  unfold lineV
  by_cases h : n < 1 ∨ (pL s (pN s) : Nat) < n
  · rw [if_pos h]; exact refLine_no s n hs h w
  · rw [if_neg h]; exact refLine_yes s n hs (by omega) (by omega) w

end Go.Proofs.Ytjgkkkfonioplaa
