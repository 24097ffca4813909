/-
  The law's own tells and known answer true.
-/
import Derived.Test.YtjgkkkfonioplaaZXRef
import Derived.Test.YtjgkkkfonioplaaZR3f
import Derived.KernelRfl
set_option linter.unusedSimpArgs false
set_option linter.unusedVariables false
namespace Go.Proofs.Ytjgkkkfonioplaa
open Go.RowKit Go.Lib

theorem zeroV_form : ∃ b r u c l k : Nat, zeroV = .agg #[.int .i64 (b : Nat), .int .i64 (r : Nat), .int .i64 (u : Nat), .int .i64 (c : Nat), .int .i64 (l : Nat), .int .i64 (k : Nat)] := ⟨_, _, _, _, _, _, rfl⟩
theorem atV_form (s : ByteArray) (u n : Int) : ∃ (v0 v1 v2 v3 v4 v5 : Nat) (e : Int), atV s u n = .tuple #[.agg #[.int .i64 (v0 : Nat), .int .i64 (v1 : Nat), .int .i64 (v2 : Nat), .int .i64 (v3 : Nat), .int .i64 (v4 : Nat), .int .i64 (v5 : Nat)], .int .i64 e] := by
  unfold atV
  (repeat' split) <;> exact ⟨_, _, _, _, _, _, _, rfl⟩
theorem cellV_form (s : ByteArray) (l c : Int) : ∃ (v0 v1 v2 v3 v4 v5 : Nat) (e : Int), cellV s l c = .tuple #[.agg #[.int .i64 (v0 : Nat), .int .i64 (v1 : Nat), .int .i64 (v2 : Nat), .int .i64 (v3 : Nat), .int .i64 (v4 : Nat), .int .i64 (v5 : Nat)], .int .i64 e] := by
  unfold cellV
  split <;> exact ⟨_, _, _, _, _, _, _, rfl⟩
theorem lenV_form (s : ByteArray) (u : Int) : ∃ (k : Nat) (e : Int), lenV s u = .tuple #[.int .i64 (k : Nat), .int .i64 e] := by
  unfold lenV
  split
  · exact ⟨_, _, rfl⟩
  · exact ⟨0, _, rfl⟩
theorem lineV_form (s : ByteArray) (n : Int) : ∃ (t : ByteArray) (e : Int), lineV s n = .tuple #[.string t, .int .i64 e] := by
  unfold lineV
  split <;> exact ⟨_, _, rfl⟩

set_option maxRecDepth 100000 in
set_option maxHeartbeats 4000000 in
theorem tells_in (s : ByteArray) (p : Nat) (u n l c : Int) (hs : s.size ≤ 1000000) (w : World) (hm : MapAt s p w) :
    Calls Try.prog 9 #[.pointer (some ⟨p, 0, none⟩), .string s, .int .i64 u, .int .i64 n, .int .i64 l, .int .i64 c] w fun e w' => e = .returned (.bool true) ∧ Below w.heap.size w w' := by
  have A1 := fun W (h : Below w.heap.size w W) => hide (at_in s p u n W hs (hm.below h))
  have A2 := fun W => hide (refAt_in s u n hs W)
  have C1 := fun W (h : Below w.heap.size w W) => hide (cell_in s p l c W hs (hm.below h))
  have C2 := fun W => hide (refCell_in s l c hs W)
  have L1 := fun W (h : Below w.heap.size w W) => hide (len_in s p u W hs (hm.below h))
  have L2 := fun W => hide (refLen_in s u hs W)
  have E1 := fun W (h : Below w.heap.size w W) => hide (line_in s p l W hs (hm.below h))
  have E2 := fun W => hide (refLine_in s l hs W)
  have N1 := fun W (h : Below w.heap.size w W) => hide (lines_in s p W hs (hm.below h))
  have N2 := fun W => hide (refLines_in s hs W)
  obtain ⟨a0, a1, a2, a3, a4, a5, ae, ha⟩ := atV_form s u n
  obtain ⟨c0, c1, c2, c3, c4, c5, ce, hc⟩ := cellV_form s l c
  obtain ⟨lk, le, hl⟩ := lenV_form s u
  obtain ⟨et, ee, he⟩ := lineV_form s l
  obtain ⟨nl, hnl⟩ : ∃ nl, pL s (pN s) = nl := ⟨_, rfl⟩
  rw [ha] at A1 A2
  rw [hc] at C1 C2
  rw [hl] at L1 L2
  rw [he] at E1 E2
  rw [hnl] at N1 N2
  clear ha hc hl he hnl hm hs
  go_enter Try.func9, Try.ntmps9
  go_wp2_with fail
  refine (unhide (A1 _ (Below.refl _ _))).mono ?_
  rintro e W1 ⟨rfl, h1⟩
  have k1 := Box6.new W1 (.int .i64 (a0 : Nat)) (.int .i64 (a1 : Nat)) (.int .i64 (a2 : Nat)) (.int .i64 (a3 : Nat)) (.int .i64 (a4 : Nat)) (.int .i64 (a5 : Nat))
  have b1 := h1.alloc h1.size (.cells #[.int .i64 (a0 : Nat), .int .i64 (a1 : Nat), .int .i64 (a2 : Nat), .int .i64 (a3 : Nat), .int .i64 (a4 : Nat), .int .i64 (a5 : Nat)] 29)
  go_wp2_with fail
  generalize W1.heap.size = x1 at k1 ⊢
  generalize W1.alloc (.cells #[.int .i64 (a0 : Nat), .int .i64 (a1 : Nat), .int .i64 (a2 : Nat), .int .i64 (a3 : Nat), .int .i64 (a4 : Nat), .int .i64 (a5 : Nat)] 29) = X1 at k1 b1 ⊢
  refine (unhide (A2 _)).mono ?_
  rintro e W2 ⟨rfl, h2⟩
  have k2 := Box6.new W2 (.int .i64 (a0 : Nat)) (.int .i64 (a1 : Nat)) (.int .i64 (a2 : Nat)) (.int .i64 (a3 : Nat)) (.int .i64 (a4 : Nat)) (.int .i64 (a5 : Nat))
  have h2a := (Below.refl _ W2).alloc (Nat.le_refl _) (.cells #[.int .i64 (a0 : Nat), .int .i64 (a1 : Nat), .int .i64 (a2 : Nat), .int .i64 (a3 : Nat), .int .i64 (a4 : Nat), .int .i64 (a5 : Nat)] 29)
  have b2 := bnext (bnext b1 h2) h2a
  replace k1 := (k1.below h2).below h2a
  go_wp2_with fail
  generalize W2.heap.size = x2 at k2 ⊢
  generalize W2.alloc (.cells #[.int .i64 (a0 : Nat), .int .i64 (a1 : Nat), .int .i64 (a2 : Nat), .int .i64 (a3 : Nat), .int .i64 (a4 : Nat), .int .i64 (a5 : Nat)] 29) = X2 at k1 k2 b2 ⊢
  clear b1 h1 h2 h2a
  refine (unhide (C1 _ b2)).mono ?_
  rintro e W3 ⟨rfl, h3⟩
  have k3 := Box6.new W3 (.int .i64 (c0 : Nat)) (.int .i64 (c1 : Nat)) (.int .i64 (c2 : Nat)) (.int .i64 (c3 : Nat)) (.int .i64 (c4 : Nat)) (.int .i64 (c5 : Nat))
  have h3a := (Below.refl _ W3).alloc (Nat.le_refl _) (.cells #[.int .i64 (c0 : Nat), .int .i64 (c1 : Nat), .int .i64 (c2 : Nat), .int .i64 (c3 : Nat), .int .i64 (c4 : Nat), .int .i64 (c5 : Nat)] 29)
  have b3 := bnext (bnext b2 h3) h3a
  replace k1 := (k1.below h3).below h3a
  replace k2 := (k2.below h3).below h3a
  go_wp2_with fail
  generalize W3.heap.size = x3 at k3 ⊢
  generalize W3.alloc (.cells #[.int .i64 (c0 : Nat), .int .i64 (c1 : Nat), .int .i64 (c2 : Nat), .int .i64 (c3 : Nat), .int .i64 (c4 : Nat), .int .i64 (c5 : Nat)] 29) = X3 at k1 k2 k3 b3 ⊢
  clear b2 h3 h3a
  refine (unhide (C2 _)).mono ?_
  rintro e W4 ⟨rfl, h4⟩
  have k4 := Box6.new W4 (.int .i64 (c0 : Nat)) (.int .i64 (c1 : Nat)) (.int .i64 (c2 : Nat)) (.int .i64 (c3 : Nat)) (.int .i64 (c4 : Nat)) (.int .i64 (c5 : Nat))
  have h4a := (Below.refl _ W4).alloc (Nat.le_refl _) (.cells #[.int .i64 (c0 : Nat), .int .i64 (c1 : Nat), .int .i64 (c2 : Nat), .int .i64 (c3 : Nat), .int .i64 (c4 : Nat), .int .i64 (c5 : Nat)] 29)
  have b4 := bnext (bnext b3 h4) h4a
  replace k1 := (k1.below h4).below h4a
  replace k2 := (k2.below h4).below h4a
  replace k3 := (k3.below h4).below h4a
  obtain ⟨X4, hX4⟩ : ∃ X4, W4.alloc (.cells #[.int .i64 (c0 : Nat), .int .i64 (c1 : Nat), .int .i64 (c2 : Nat), .int .i64 (c3 : Nat), .int .i64 (c4 : Nat), .int .i64 (c5 : Nat)] 29) = X4 := ⟨_, rfl⟩
  rw [hX4] at k1 k2 k3 k4 b4
  obtain ⟨p0, p1, p2, p3, p4, p5, _⟩ := k1.facts
  obtain ⟨q0, q1, q2, q3, q4, q5, _⟩ := k2.facts
  obtain ⟨r0, r1, r2, r3, r4, r5, _⟩ := k3.facts
  obtain ⟨t0, t1, t2, t3, t4, t5, _⟩ := k4.facts
  clear b3 h4 h4a k1 k2 k3 k4
  go_wp2_with (first | (go_at_call 14; refine (unhide (L1 _ b4)).mono ?_; rintro e W5 ⟨rfl, h5⟩; have b5 := bnext b4 h5) | (go_at_call 24; refine (unhide (L2 _)).mono ?_; rintro e W6 ⟨rfl, h6⟩; have b6 := bnext b5 h6) | (go_at_call 15; refine (unhide (E1 _ b6)).mono ?_; rintro e W7 ⟨rfl, h7⟩; have b7 := bnext b6 h7) | (go_at_call 25; refine (unhide (E2 _)).mono ?_; rintro e W8 ⟨rfl, h8⟩; have b8 := bnext b7 h8) | (go_at_call 16; refine (unhide (N1 _ b8)).mono ?_; rintro e W9 ⟨rfl, h9⟩; have b9 := bnext b8 h9) | (go_at_call 10; refine (unhide (N2 _)).mono ?_; rintro e W10 ⟨rfl, h10⟩; have b10 := bnext b9 h10))
  go_ret
  exact ⟨rfl, b10⟩

end Go.Proofs.Ytjgkkkfonioplaa
