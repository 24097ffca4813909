/-
  bodyOf of the document's example.
-/
import Derived.Test.YtkffonoifbaifaaGreatZFD
import Derived.Test.YtkffonoifbaifaaGreatZV6
import Derived.Test.YtkffonoifbaifaaGreatZW1
set_option linter.unusedSimpArgs false
set_option linter.unusedVariables false
namespace Go.Proofs.YtkffonoifbaifaaGreat
open Go.RowKit Go.Lib

theorem num_small (n : Nat) (h : n < 128) : num n = [n] := by
  have : ∀ n, n < 128 → num n = [n] := by decide
  exact this n h
theorem wNum_small (L : List Nat) (n : Nat) (h : n < 128) : wNum (L, 0) ((n : Nat) : Int) = (L ++ [n], 0) := by
  unfold wNum
  rw [if_neg (by simp), if_neg (by omega), Int.toNat_natCast, num_small n h]
theorem vec17 : vec (sy [(1, 7)]) = [(1, 7)] := by kernel_rfl
theorem putV17 (L : List Nat) : putV (L, 0) [(1, 7)] = (L ++ [1] ++ [1] ++ [7], 0) := by
  have e1 : wNum (L, 0) 1 = (L ++ [1], 0) := wNum_small L 1 (by decide)
  have e2 : wNum (L ++ [1], 0) 1 = (L ++ [1] ++ [1], 0) := wNum_small _ 1 (by decide)
  have e3 : wNum (L ++ [1] ++ [1], 0) 7 = (L ++ [1] ++ [1] ++ [7], 0) := wNum_small _ 7 (by decide)
  show wNum (wNum (wNum (L, 0) 1) 1) 7 = _
  rw [e1, e2, e3]
/-- while the body is laid -/
def BS (w : World) (hv : Value) (W : World) (L : List Nat) : Prop := ∃ v, Wr W (w.heap.size + 1) v L 0 ∧ Bx W w.heap.size 39 #[Value.int .i64 1, Value.int .i64 1, Value.int .i64 2, Value.int .i64 3, Value.int .i64 4, Value.int .i64 5, Value.bool true, hv, (Value.slice none 0 0), (Value.slice none 0 0), (Value.slice none 0 0), (Value.int .i64 0), (Value.slice none 0 0), (Value.slice none 0 0), (Value.slice none 0 0), (Value.slice none 0 0), (Value.int .i64 0)] ∧ Below w.heap.size w W ∧ (∀ k, v.ownBlock = some k → w.heap.size + 2 ≤ k)
theorem BS.next {w W W' : World} {hv v v' : Value} {L' : List Nat} (hx : Bx W w.heap.size 39 #[Value.int .i64 1, Value.int .i64 1, Value.int .i64 2, Value.int .i64 3, Value.int .i64 4, Value.int .i64 5, Value.bool true, hv, (Value.slice none 0 0), (Value.slice none 0 0), (Value.slice none 0 0), (Value.int .i64 0), (Value.slice none 0 0), (Value.slice none 0 0), (Value.slice none 0 0), (Value.slice none 0 0), (Value.int .i64 0)]) (hb : Below w.heap.size w W) (hv0 : ∀ k, v.ownBlock = some k → w.heap.size + 2 ≤ k) (hs : w.heap.size + 2 ≤ W.heap.size) (h' : Wr W' (w.heap.size + 1) v' L' 0) (kk : Kp (wOwn (w.heap.size + 1) v) W W') (ha : OwnAt W v v') : BS w hv W' L' :=
  ⟨v', h', hx.kp kk (fun e => by rcases e with e | e; · omega
                                 · have := hv0 _ e; omega), kk.below hb (fun i e => by rcases e with e | e; · omega
                                                                                       · have := hv0 _ e; omega), fun k hk => by
    rcases ha k hk with e | e
    · exact hv0 k e
    · omega⟩
theorem BS.size {w W : World} {hv : Value} {L : List Nat} (h : BS w hv W L) : w.heap.size + 2 ≤ W.heap.size := by
  obtain ⟨v, h1, _⟩ := h
  have := h1.box.lt
  omega
theorem BS.number {w W : World} {hv : Value} {L : List Nat} (h : BS w hv W L) (n : Nat) (hn : n < 128) (hL : L.length ≤ 1000) : Calls Tryz.prog 25 #[.pointer (some ⟨w.heap.size + 1, 0, none⟩), .int .i64 (n : Nat)] W fun r W' => r = .returned (.tuple #[]) ∧ BS w hv W' (L ++ [n]) := by
  have hs := h.size
  obtain ⟨v, h1, h2, h3, h4⟩ := h
  refine (wNumber_in (n : Int) h1 (by omega) (by omega) (by omega)).mono ?_
  rintro r W' ⟨e, v', q1, q2, q3⟩
  rw [wNum_small L n hn] at q1
  exact ⟨e, BS.next h2 h3 h4 hs q1 q2 q3⟩
theorem BS.vec {w W : World} {hv : Value} {L : List Nat} (h : BS w hv W L) (hr : RI w hv [(1, 7)]) (hL : L.length ≤ 1000) : Calls Tryz.prog 27 #[.pointer (some ⟨w.heap.size + 1, 0, none⟩), hv] W fun r W' => r = .returned (.tuple #[]) ∧ BS w hv W' (L ++ [1] ++ [1] ++ [7]) := by
  have hs := h.size
  obtain ⟨v, h1, h2, h3, h4⟩ := h
  refine (Put_in [(1, 7)] h1 (hr.below h3) (by decide) (by omega)).mono ?_
  rintro r W' ⟨e, v', q1, q2, q3⟩
  rw [vec17, putV17] at q1
  exact ⟨e, BS.next h2 h3 h4 hs q1 q2 q3⟩
theorem BS.cell {w W : World} {hv : Value} {L : List Nat} (h : BS w hv W L) {k : Nat} {x : Value} (hx : (#[Value.int .i64 1, Value.int .i64 1, Value.int .i64 2, Value.int .i64 3, Value.int .i64 4, Value.int .i64 5, Value.bool true, hv, (Value.slice none 0 0), (Value.slice none 0 0), (Value.slice none 0 0), (Value.int .i64 0), (Value.slice none 0 0), (Value.slice none 0 0), (Value.slice none 0 0), (Value.slice none 0 0), (Value.int .i64 0)] : Array Value)[k]? = some x) : W.cell? ⟨w.heap.size, k, none⟩ = some x := by
  obtain ⟨v, h1, h2, h3, h4⟩ := h
  exact h2.cell k x hx
theorem BS.start (w : World) (hv : Value) : BS w hv ((w.alloc (.cells #[Value.int .i64 1, Value.int .i64 1, Value.int .i64 2, Value.int .i64 3, Value.int .i64 4, Value.int .i64 5, Value.bool true, hv, (Value.slice none 0 0), (Value.slice none 0 0), (Value.slice none 0 0), (Value.int .i64 0), (Value.slice none 0 0), (Value.slice none 0 0), (Value.slice none 0 0), (Value.slice none 0 0), (Value.int .i64 0)] 39)).alloc (.cells #[.slice none 0 0, .int .i64 0] 67)) [] := by
  have hs : (w.alloc (.cells #[Value.int .i64 1, Value.int .i64 1, Value.int .i64 2, Value.int .i64 3, Value.int .i64 4, Value.int .i64 5, Value.bool true, hv, (Value.slice none 0 0), (Value.slice none 0 0), (Value.slice none 0 0), (Value.int .i64 0), (Value.slice none 0 0), (Value.slice none 0 0), (Value.slice none 0 0), (Value.slice none 0 0), (Value.int .i64 0)] 39)).heap.size = w.heap.size + 1 := by simp
  refine ⟨.slice none 0 0, ?_, (Bx.new w _ _).below (ballc (Below.refl _ _) _), ballc (ballc (Below.refl _ _) _) _, fun k hk => by simp [Value.ownBlock] at hk⟩
  rw [← hs]
  exact ⟨Bx.new _ _ _, World.ownsRow_nil _ _ _ _⟩

set_option maxRecDepth 100000 in
theorem digit_in (w : World) : Calls Tryz.prog 26 #[.bool true] w fun r W => r = .returned (.int .i64 1) ∧ w = W := by
  go_enter Tryz.func26, Tryz.ntmps26
  go_wp2
  go_ret
  exact ⟨rfl, rfl⟩
set_option maxRecDepth 100000 in
set_option maxHeartbeats 4000000 in
theorem putOps_nil {w W : World} {hv : Value} {L : List Nat} (h : BS w hv W L) (hL : L.length ≤ 1000) : Calls Tryz.prog 28 #[.pointer (some ⟨w.heap.size + 1, 0, none⟩), (Value.slice none 0 0)] W fun r W' => r = .returned (.tuple #[]) ∧ BS w hv W' (L ++ [0]) := by
  have HN := hide (h.number 0 (by decide) hL)
  clear h
  go_enter Tryz.func28, Tryz.ntmps28
  go_wp2_with fail
  refine (unhide HN).mono ?_
  rintro r W1 ⟨rfl, hb⟩
  have HB := hide hb
  clear hb HN
  go_wp2
  go_loopw [12] (fun iv wr => iv = .int .i64 0 ∧ wr = W1) (fun _ _ => 0)
  case atStart => exact ⟨rfl, rfl⟩
  case round =>
    obtain ⟨rfl, rfl⟩ := hrel
    go_wp2
    refine bodyPost_end (results_none rfl _ _ _) rfl ?_

    exact ⟨rfl, unhide HB⟩
def body17 : List Nat := [1, 1, 2, 3, 4, 5, 1, 1, 1, 7, 0]
set_option maxRecDepth 100000 in
set_option maxHeartbeats 4000000 in
theorem bodyOf_in (hv : Value) (w : World) (hr : RI w hv [(1, 7)]) : Calls Tryz.prog 14 #[.agg #[Value.int .i64 1, Value.int .i64 1, Value.int .i64 2, Value.int .i64 3, Value.int .i64 4, Value.int .i64 5, Value.bool true, hv, (Value.slice none 0 0), (Value.slice none 0 0), (Value.slice none 0 0), (Value.int .i64 0), (Value.slice none 0 0), (Value.slice none 0 0), (Value.slice none 0 0), (Value.slice none 0 0), (Value.int .i64 0)]] w fun r W => ∃ a c, r = .returned (.slice a 11 c) ∧ RB W (.slice a 11 c) body17 ∧ Below w.heap.size w W := by
  have HR := hide hr
  have HS := hide (BS.start w hv)
  clear hr
  have c0 := (unhide HS).cell (k := 0) rfl
  go_enter Tryz.func14, Tryz.ntmps14
  go_wp2_with fail
  refine ((unhide HS).number 1 (by decide) (by simp)).mono ?_
  rintro r W1 ⟨rfl, hb⟩
  have HB1 := hide hb
  clear hb
  have c1_1 := (unhide HB1).cell (k := 1) rfl
  go_wp2_with fail
  refine ((unhide HB1).number 1 (by decide) (by simp)).mono ?_
  rintro r W2 ⟨rfl, hb⟩
  have HB2 := hide hb
  clear hb
  have c2_2 := (unhide HB2).cell (k := 2) rfl
  go_wp2_with fail
  refine ((unhide HB2).number 2 (by decide) (by simp)).mono ?_
  rintro r W3 ⟨rfl, hb⟩
  have HB3 := hide hb
  clear hb
  have c3_3 := (unhide HB3).cell (k := 3) rfl
  go_wp2_with fail
  refine ((unhide HB3).number 3 (by decide) (by simp)).mono ?_
  rintro r W4 ⟨rfl, hb⟩
  have HB4 := hide hb
  clear hb
  have c4_4 := (unhide HB4).cell (k := 4) rfl
  go_wp2_with fail
  refine ((unhide HB4).number 4 (by decide) (by simp)).mono ?_
  rintro r W5 ⟨rfl, hb⟩
  have HB5 := hide hb
  clear hb
  have c5_5 := (unhide HB5).cell (k := 5) rfl
  go_wp2_with fail
  refine ((unhide HB5).number 5 (by decide) (by simp)).mono ?_
  rintro r W6 ⟨rfl, hb⟩
  have HB6 := hide hb
  clear hb
  have c6_6 := (unhide HB6).cell (k := 6) rfl
  go_wp2_with fail
  refine (digit_in _).mono ?_
  rintro r X7 ⟨rfl, rfl⟩
  go_wp2_with fail
  refine ((unhide HB6).number 1 (by decide) (by simp)).mono ?_
  rintro r W7 ⟨rfl, hb⟩
  have HB7 := hide hb
  clear hb
  have c7_7 := (unhide HB7).cell (k := 7) rfl
  go_wp2_with fail
  refine ((unhide HB7).vec (unhide HR) (by simp)).mono ?_
  rintro r W8 ⟨rfl, hb⟩
  have HB8 := hide hb
  clear hb
  have c8_0 := (unhide HB8).cell (k := 0) rfl
  have c8_8 := (unhide HB8).cell (k := 8) rfl
  go_wp2_with fail
  refine (putOps_nil (unhide HB8) (by simp)).mono ?_
  rintro r W9 ⟨rfl, hb⟩
  have HB9 := hide hb
  clear hb
  obtain ⟨v9, q1, q2, q3, q4⟩ := unhide HB9
  have HD := hide (wData_in q1 (by simp))
  have HQ := hide q3
  clear q1 q2 q3 q4
  go_wp2_with fail
  refine (unhide HD).mono ?_
  rintro r X9 ⟨v', rfl, ho, hb⟩
  obtain ⟨a, c, rfl⟩ := owns_form ho
  have HO := hide (show RB X9 (.slice a 11 c) body17 ∧ Below w.heap.size w X9 from ⟨RC.of_owns ho, bnext (unhide HQ) hb⟩)
  clear ho hb HD HQ
  go_wp2
  go_ret
  exact ⟨a, c, rfl, unhide HO⟩
end Go.Proofs.YtkffonoifbaifaaGreat
