/-
  The law's awake, large; the document's Bound.
-/
import Derived.Test.YtmglnaldpcmakaaZSZ
set_option linter.unusedSimpArgs false
set_option linter.unusedVariables false
namespace Go.Proofs.Ytmglnaldpcmakaa
open Go.RowKit Go.Lib Go.Shelf

theorem rc_bx {W : World} {b : Nat} {t : TypeId} {vs : Array Value} {n c : Nat} {C : List Value} (h : Bx W b t vs) (hc : vs.toList = C) (hn : n ≤ c) : RC W (.slice (some ⟨b, 0, none⟩) n c) n C :=
  .inr ⟨b, 0, c, rfl, hn, h.lt, fun j x hx => by
    rw [Nat.zero_add]
    exact h.cell j x (by rw [← hx, ← hc]; simp)⟩

def e1A : Ev := ⟨1, 2, 0, 1, 2, 1, false⟩
def e2A : Ev := ⟨4, 2, 0, 2, 1, 2, false⟩
theorem winA : WinP [e1A, e2A] [1, 2] 0 9 [(0, 5)] := by
  unfold WinP
  rw [if_pos ⟨1, by simp, 2, by simp, by omega⟩]
  refine ⟨rfl, ⟨by show max (0 : Int) 0 < 5; omega, ?_⟩, by show (5 : Int) ≤ 9; omega, ?_, ?_⟩
  · intro a ha b hb
    simp only [List.mem_cons, List.not_mem_nil, or_false] at ha hb
    rcases ha with rfl | rfl <;> rcases hb with rfl | rfl
    · exact .inl rfl
    · exact .inr ⟨e1A, by simp, by unfold Wn e1A; simp⟩
    · exact .inr ⟨e2A, by simp, by unfold Wn e2A; simp⟩
    · exact .inl rfl
  · intro u hu
    rcases hu.2 2 (by simp) 1 (by simp) with h | ⟨e, he, h⟩
    · omega
    · simp only [List.mem_cons, List.not_mem_nil, or_false] at he
      rcases he with rfl | rfl
      · obtain ⟨_, _, h3, _⟩ := h; simp [e1A] at h3
      · obtain ⟨_, _, _, _, _, _, h7, _⟩ := h; simp [e2A] at h7; show (5 : Int) ≤ u; omega
  · intro t ht hF
    rcases hF.2 1 (by simp) 2 (by simp) with h | ⟨e, he, h⟩
    · omega
    · simp only [List.mem_cons, List.not_mem_nil, or_false] at he
      rcases he with rfl | rfl
      · obtain ⟨_, _, _, _, h5, _⟩ := h; simp [e1A] at h5
      · obtain ⟨_, _, h3, _⟩ := h; simp [e2A] at h3

set_option maxRecDepth 100000 in
set_option maxHeartbeats 2000000 in
theorem awake_in (w : World) : Calls Try.prog 9 #[] w fun e W => e = .returned (.bool true) ∧ Below w.heap.size w W := by
  have HB := hide (fun (x : Int) W => Sk.Bound_in x W)
  have al1 := ballc (Below.refl w.heap.size w) (.cells #[.int .i64 1, .int .i64 2, .int .i64 0, .int .i64 1, .int .i64 2, .int .i64 1, .bool false, .int .i64 4, .int .i64 2, .int .i64 0, .int .i64 2, .int .i64 1, .int .i64 2, .bool false] 27)
  have x1 := Bx.new w 27 #[.int .i64 1, .int .i64 2, .int .i64 0, .int .i64 1, .int .i64 2, .int .i64 1, .bool false, .int .i64 4, .int .i64 2, .int .i64 0, .int .i64 2, .int .i64 1, .int .i64 2, .bool false]
  have z1 : (w.alloc (.cells #[.int .i64 1, .int .i64 2, .int .i64 0, .int .i64 1, .int .i64 2, .int .i64 1, .bool false, .int .i64 4, .int .i64 2, .int .i64 0, .int .i64 2, .int .i64 1, .int .i64 2, .bool false] 27)).heap.size = w.heap.size + 1 := by simp
  obtain ⟨X, hX⟩ : ∃ X, w.alloc (.cells #[.int .i64 1, .int .i64 2, .int .i64 0, .int .i64 1, .int .i64 2, .int .i64 1, .bool false, .int .i64 4, .int .i64 2, .int .i64 0, .int .i64 2, .int .i64 1, .int .i64 2, .bool false] 27) = X := ⟨_, rfl⟩
  rw [hX] at al1 x1 z1
  have al2 := ballc (Below.refl X.heap.size X) (.cells #[.int .i64 1, .int .i64 2] 3)
  have x2 := Bx.new X 3 #[.int .i64 1, .int .i64 2]
  rw [z1] at x2
  have x1' := x1.below al2
  obtain ⟨Y, hY⟩ : ∃ Y, X.alloc (.cells #[.int .i64 1, .int .i64 2] 3) = Y := ⟨_, rfl⟩
  rw [hY] at al2 x2 x1'
  have hW := Sk.Windows_in Y _ _ [e1A, e2A] [1, 2] 0 9 (rc_bx (n := 2) (c := 2) x1' rfl (by omega)) (rc_bx (n := 2) (c := 2) x2 rfl (by omega)) (by simp) (by simp) (by omega)
  have HW := hide hW
  have HYs := hide hY
  have HX := hide hX
  have Hbel := hide (bnext al1 al2)
  clear hW hX hY al1 al2 x1 x1' x2 z1
  go_enter Try.func9, Try.ntmps9
  go_wp2_with fail
  rw [unhide HX, unhide HYs]
  refine (unhide HW).mono ?_
  rintro e V ⟨v, l, rfl, ho, hw, _, hb⟩
  obtain rfl : l = [(0, 5)] := hw.uniq winA
  obtain ⟨a, c, rfl⟩ := OwW.form ho
  obtain ⟨b, off, rfl, _, k0, k1⟩ := RG.at ho.row (i := 0) (x := (0, 5)) rfl
  have k0' : V.cell? ⟨b, off, none⟩ = some (.int .i64 0) := by simpa using k0
  have k1' : V.cell? ⟨b, off + 1, none⟩ = some (.int .i64 5) := by simpa using k1
  have Hb := hide hb
  have e3 : (2 * min (max (3 : Int) 0) 2147483647) = 6 := by omega
  have hbd := unhide HB 3
  rw [e3] at hbd
  have HB3 := hide hbd
  clear ho hw hb k0 k1 HW HX HYs hbd e3 HB
  go_wp2_with (go_at_call 13; refine (unhide HB3 _).mono ?_; rintro e W3 ⟨rfl, rfl⟩)
  go_ret
  exact ⟨by simp, bnext (unhide Hbel) (unhide Hb)⟩

theorem refBound_in (x : Int) (w : World) : Calls Try.prog 14 #[.int .i64 x] w fun e W => e = .returned (.int .i64 (2 * min (max x 0) 2147483647)) ∧ W = w := by
  obtain ⟨R, hR⟩ : ∃ R, 2 * min (max x 0) 2147483647 = R := ⟨_, rfl⟩
  rw [hR]
  by_cases h1 : x < 0
  · obtain rfl : R = 0 := by omega
    clear hR
    go_enter Try.func14, Try.ntmps14
    go_wp2
    go_ret
    exact ⟨rfl, rfl⟩
  · by_cases h2 : x > 2147483647
    · obtain rfl : R = 4294967294 := by omega
      clear hR
      go_enter Try.func14, Try.ntmps14
      go_wp2
      go_ret
      exact ⟨rfl, rfl⟩
    · obtain rfl : R = x + x := by omega
      clear hR
      go_enter Try.func14, Try.ntmps14
      go_wp2
      go_ret
      exact ⟨rfl, rfl⟩

theorem large_in (a b : Option Addr) (n m c d : Nat) (w : World) : Calls Try.prog 8 #[.slice a n c, .slice b m d] w fun e W => e = .returned (.bool (decide (300 < n ∨ 40 < m))) ∧ W = w := by
  by_cases h1 : 300 < n
  · have h1' : (n : Int) > 300 := by omega
    simp only [h1, true_or, decide_true]
    go_enter Try.func8, Try.ntmps8
    go_wp2
    go_ret
    exact ⟨rfl, rfl⟩
  · have h1' : ¬ (n : Int) > 300 := by omega
    simp only [h1, false_or]
    by_cases h2 : 40 < m
    · have h2' : (m : Int) > 40 := by omega
      simp only [h2, decide_true]
      go_enter Try.func8, Try.ntmps8
      go_wp2
      go_ret
      exact ⟨rfl, rfl⟩
    · have h2' : ¬ (m : Int) > 40 := by omega
      simp only [h2, decide_false]
      go_enter Try.func8, Try.ntmps8
      go_wp2
      go_ret
      exact ⟨rfl, rfl⟩

end Go.Proofs.Ytmglnaldpcmakaa
