/-
  What glyph.Cut answers: a text cut in front of its piece of a number.
-/
import Derived.Test.YtlbgfcbhpmhhpabZIter
set_option linter.unusedSimpArgs false
set_option linter.unusedVariables false
namespace Go.Proofs.Ytlbgfcbhpmhhpab
open Go.RowKit Go.Lib Go.Shelf

attribute [local go_sem] Oper.semAt_some

/-- a text, cut in front of its n-th piece -/
def cutL (s : ByteArray) (n : Int) : ByteArray := match (allL s)[n.toNat]? with
  | some i => s.extract 0 i
  | none => s
def cutR (s : ByteArray) (n : Int) : ByteArray := match (allL s)[n.toNat]? with
  | some i => s.extract i s.size
  | none => ⟨#[]⟩

theorem cut_at {s : ByteArray} {q rest : List Nat} {i : Nat} {n : Int} (h : q ++ i :: rest = allL s) (hn : n.toNat = q.length) : (allL s)[n.toNat]? = some i := by
  rw [← h, hn]; simp

set_option maxRecDepth 100000 in
set_option maxHeartbeats 2000000 in
theorem cut_in (s : ByteArray) (n : Int) (hs : s.size ≤ 140737488355328) (hnl : -9223372036854775808 ≤ n) (hnu : n ≤ 9223372036854775807) (w : World) :
    Calls Try.prog 27 #[.string s, .int .i64 n] w fun e W' => e = .returned (.tuple #[.string (cutL s n), .string (cutR s n)]) ∧ Below w.heap.size w W' := by
  refine (callsIn_wide (n := 6)).1 ?_
  have hlen := allL_length s
  have hs0 : s.size ≤ maxLen := by unfold maxLen; omega
  refine callsIn_of_wp_marks Try.func27 rfl trivial ?_ rfl
  simp only [Try.ntmps27, List.size_toArray, List.length_cons, List.length_nil, Nat.reduceAdd, Nat.reduceSub, Array.replicate_succ, Array.replicate_zero, List.push_toArray, List.append_toArray, List.nil_append, List.cons_append]
  gi_wp2_with (refine ⟨trivial, ?_⟩; gi_at_call 21; refine (all_in Fence.wide _ trivial rfl _ _).mono ?_; rintro e w' ⟨rfl, rfl⟩)
  have b0 := Boxed.new w 9 (.string s)
  have b1 := Boxed.new (w.alloc (.cells #[.string s] 9)) 3 (.int .i64 n)
  have b2 := Boxed.new ((w.alloc (.cells #[.string s] 9)).alloc (.cells #[.int .i64 n] 3)) 9 (.string ⟨#[]⟩)
  have b3 := Boxed.new (((w.alloc (.cells #[.string s] 9)).alloc (.cells #[.int .i64 n] 3)).alloc (.cells #[.string ⟨#[]⟩] 9)) 9 (.string ⟨#[]⟩)
  have b4 := Boxed.new ((((w.alloc (.cells #[.string s] 9)).alloc (.cells #[.int .i64 n] 3)).alloc (.cells #[.string ⟨#[]⟩] 9)).alloc (.cells #[.string ⟨#[]⟩] 9)) 9 (.string s)
  simp only [World.size_alloc] at b1 b2 b3 b4
  have hB0 : Below w.heap.size w (((((w.alloc (.cells #[.string s] 9)).alloc (.cells #[.int .i64 n] 3)).alloc (.cells #[.string ⟨#[]⟩] 9)).alloc (.cells #[.string ⟨#[]⟩] 9)).alloc (.cells #[.string s] 9)) := (((((Below.refl _ w).alloc (Nat.le_refl _) _).alloc (by simp) _).alloc (by simp; omega) _).alloc (by simp; omega) _).alloc (by simp; omega) _
  refine wpIn_rangeFunc_ownG rfl (by decide) (gf := 30) (lb := #[.pointer (some ⟨w.heap.size + 1 + 1 + 1 + 1, 0, none⟩)]) rfl trivial (enters_of Try.func30 (by kernel_rfl) rfl)
    (all_stops Fence.wide 5 trivial rfl (by decide) (w.heap.size + 1 + 1 + 1 + 1) s _ (by simp) b4.cell) walksK_t walksK_b (Below.refl _ _) (fun _ => rfl)
    (fun pre W => ((((Boxed W w.heap.size 9 (.string s) ∧ Boxed W (w.heap.size + 1) 3 (.int .i64 (n - (pre.length : Nat)))) ∧ Boxed W (w.heap.size + 1 + 1) 9 (.string ⟨#[]⟩)) ∧ Boxed W (w.heap.size + 1 + 1 + 1) 9 (.string ⟨#[]⟩)) ∧ Below w.heap.size w W) ∧ (pre = [] ∨ (pre.length : Int) ≤ n))
    (fun c pre W => (c = .ret ∧ ∃ (q : List (Pl s)) (x : Pl s), pre = q ++ [x] ∧ n.toNat = q.length ∧ Boxed W (w.heap.size + 1 + 1) 9 (.string (s.extract 0 x.1)) ∧ Boxed W (w.heap.size + 1 + 1 + 1) 9 (.string (s.extract x.1 s.size))) ∧ Below w.heap.size w W)
    (OwnFrom.and (OwnFrom.and (OwnFrom.and (OwnFrom.and (OwnFrom.and (Own.from (boxed_own w.heap.size 9 (fun pre : List (Pl s) => .string s)) _) (Own.from (boxed_own (w.heap.size + 1) 3 (fun pre : List (Pl s) => .int .i64 (n - (pre.length : Nat)))) _)) (Own.from (boxed_own (w.heap.size + 1 + 1) 9 (fun pre : List (Pl s) => .string ⟨#[]⟩)) _)) (Own.from (boxed_own (w.heap.size + 1 + 1 + 1) 9 (fun pre : List (Pl s) => .string ⟨#[]⟩)) _)) (ownFrom_below (Nat.le_refl _) (by simp; omega))) (ownFrom_pure _ _))
    (fun c => OwnFrom.and (fun pre X Y row hs hg hr => by
      obtain ⟨hc, q, x, e, h1, hb, hb'⟩ := hs
      exact ⟨hc, q, x, e, h1, boxed_own (β := Unit) _ _ (fun _ => .string (s.extract 0 x.1)) () X Y row hb hg (fun r e => (hr r e).2), boxed_own (β := Unit) _ _ (fun _ => .string (s.extract x.1 s.size)) () X Y row hb' hg (fun r e => (hr r e).2)⟩) (ownFrom_below (Nat.le_refl _) (by simp; omega)))
    ⟨⟨⟨⟨⟨(((b0.alloc _).alloc _).alloc _).alloc _, by simpa using ((b1.alloc _).alloc _).alloc _⟩, (b2.alloc _).alloc _⟩, b3.alloc _⟩, hB0⟩, .inl rfl⟩
    (fun x => { tmps := #[.string s, .int .i64 n, .pointer (some ⟨w.heap.size, 0, none⟩), .pointer (some ⟨w.heap.size + 1, 0, none⟩), .pointer (some ⟨w.heap.size + 1 + 1, 0, none⟩), .pointer (some ⟨w.heap.size + 1 + 1 + 1, 0, none⟩), .int .i64 (x.1 : Nat), .string s, .func (.func 30) #[] #[.pointer (some ⟨w.heap.size + 1 + 1 + 1 + 1, 0, none⟩)], .int .i64 (x.1 : Nat), .int .i32 (rn s x.1 : Nat), undef, undef, undef, undef, undef, undef, undef, undef, undef, undef, undef], defers := [] }) ?assign ?body ?done ?stop
  case assign =>
    intro l x W K hK
    gi_wp2
    exact hK
  case body =>
    rintro l pre x W ⟨⟨⟨⟨⟨h0, h1⟩, h2⟩, h3⟩, hB⟩, hn⟩ hlt
    clear b0 b1 b2 b3 b4 hB0
    have hfo : Try.prog.follows Departure.mixedOrders = true := by kernel_rfl
    have c0 := h0.cell
    have c1 := h1.cell
    have c2 := h2.cell
    have c3 := h3.cell
    have f1 := h1.frozen
    have f2 := h2.frozen
    have f3 := h3.frozen
    have hx := x.2
    have hx1 : (x.1 : Int) ≤ (s.size : Int) := by omega
    have hx2 : (0 : Int) ≤ (x.1 : Int) := by omega
    by_cases hz : n - (pre.length : Int) ≤ 0
    · have hnl : n.toNat = pre.length := by
        rcases hn with rfl | hn
        · simp at hz; simp; omega
        · omega
      have Hn := hide hnl
      clear hnl
      gi_wp2
      gi_region_with_o (fail)
      all_goals gi_wp2
      all_goals exact ⟨((KeepsOthers.setCell _ _ _).trans ((KeepsOthers.setCell _ _ _).trans (KeepsOthers.drew _))).from _, ⟨rfl, pre, x, rfl, unhide Hn, (h2.set _).other (by omega) _, (h3.other (by omega) _).set _⟩, ((hB.setCell (p := ⟨w.heap.size + 1 + 1, 0, none⟩) (by simp; omega) _).setCell (p := ⟨w.heap.size + 1 + 1 + 1, 0, none⟩) (by simp; omega) _).drew⟩
    · have hb1 : n - (pre.length : Int) - 1 = n - ((pre ++ [x]).length : Nat) := by simp; omega
      have hnn : pre.length < n := by omega
      have Hb := hide hb1
      clear hb1
      gi_wp2
      refine ⟨(KeepsOthers.setCell _ _ _).from _, KeepsWalks.setCell _ _ _, ⟨⟨⟨⟨h0.other (by omega) _, ?_⟩, h2.other (by omega) _⟩, h3.other (by omega) _⟩, hB.setCell (p := ⟨w.heap.size + 1, 0, none⟩) (by simp) _⟩, .inr (by simp; omega)⟩
      rw [← unhide Hb]
      exact h1.set _
  case done =>
    rintro D ys W hD hys ⟨⟨⟨⟨⟨h0, h1⟩, h2⟩, h3⟩, hB⟩, hn⟩ hK
    have c0 := h0.cell
    have c2 := h2.cell
    have c3 := h3.cell
    have f2 := h2.frozen
    have f3 := h3.frozen
    have hl : ys.length = (allL s).length := by rw [← hys]; simp
    have hno : (allL s)[n.toNat]? = none := by
      rw [List.getElem?_eq_none_iff, ← hl]
      rcases hn with rfl | hn
      · simp
      · omega
    have e1 : cutL s n = s := by unfold cutL; rw [hno]
    have e2 : cutR s n = ⟨#[]⟩ := by unfold cutR; rw [hno]
    have E1 := hide e1
    have E2 := hide e2
    clear b0 b1 b2 b3 b4 hB0 hno e1 e2 hl
    gi_wp2
    have g2 := (h2.set (.string s)).other (B' := w.heap.size + 1 + 1 + 1) (by omega) (.string ⟨#[]⟩)
    have g3 := (h3.other (B' := w.heap.size + 1 + 1) (by omega) (.string s)).set (.string ⟨#[]⟩)
    have hK' := ((KeepsOthers.setCell W ⟨w.heap.size + 1 + 1, 0, none⟩ (.string s)).trans (KeepsOthers.setCell _ ⟨w.heap.size + 1 + 1 + 1, 0, none⟩ (.string ⟨#[]⟩))).same D _ hK rfl
    refine ⟨by simp, .inl ⟨_, _, rfl, run_takeDeferred hK', ?_⟩⟩
    have hc2 := cell_kept g2.cell (grownBy_putObj' _ D (.deferred none)) (fun r e => by cases e; exact ⟨_, hK', rfl⟩)
    have hc3 := cell_kept g3.cell (grownBy_putObj' _ D (.deferred none)) (fun r e => by cases e; exact ⟨_, hK', rfl⟩)
    refine ⟨.tuple #[.string s, .string ⟨#[]⟩], ?_, by rw [unhide E1, unhide E2], ((hB.setCell (p := ⟨w.heap.size + 1 + 1, 0, none⟩) (by simp; omega) _).setCell (p := ⟨w.heap.size + 1 + 1 + 1, 0, none⟩) (by simp; omega) _).trans (belowK_b (w := w) (Nat.le_refl _) _ D _ _ (by simp at hD; omega) hK' rfl rfl)⟩
    simp [results, Try.f27, go_sem, hc2, hc3]
  case stop =>
    rintro D c pre W hD ⟨rest, hrest⟩ ⟨⟨rfl, q, x, rfl, hq, h2, h3⟩, hB⟩ hK
    have hat : (allL s)[n.toNat]? = some x.1 := cut_at (q := q.map (·.1)) (rest := rest) (by rw [← hrest]; simp) (by rw [hq]; simp)
    have e1 : cutL s n = s.extract 0 x.1 := by unfold cutL; rw [hat]
    have e2 : cutR s n = s.extract x.1 s.size := by unfold cutR; rw [hat]
    have E1 := hide e1
    have E2 := hide e2
    clear b0 b1 b2 b3 b4 hB0 hat e1 e2
    gi_wp2
    refine ⟨by simp, .inl ⟨_, _, rfl, run_takeDeferred hK, ?_⟩⟩
    have hc2 := cell_kept h2.cell (grownBy_putObj' _ D (.deferred none)) (fun r e => by cases e; exact ⟨_, hK, rfl⟩)
    have hc3 := cell_kept h3.cell (grownBy_putObj' _ D (.deferred none)) (fun r e => by cases e; exact ⟨_, hK, rfl⟩)
    refine ⟨.tuple #[.string (s.extract 0 x.1), .string (s.extract x.1 s.size)], ?_, by rw [unhide E1, unhide E2], hB.trans (belowK_b (w := w) (Nat.le_refl _) W D _ _ (by simp at hD; omega) hK rfl rfl)⟩
    simp [results, Try.f27, go_sem, hc2, hc3]

end Go.Proofs.Ytlbgfcbhpmhhpab
