/-
  What glyph.BadAt answers: the first place that is no rune's.
-/
import Derived.Test.YtijjoikeceechaaGreatZIter
set_option linter.unusedSimpArgs false
set_option linter.unusedVariables false
namespace Go.Proofs.YtijjoikeceechaaGreat
open Go.RowKit Go.Lib Go.Shelf

attribute [local go_sem] Oper.semAt_some

/-- the first place that begins no rune -/
def firstBad (s : ByteArray) (l : List Nat) : Int := match l.find? (fun i => !okR s i) with
  | some i => (i : Int)
  | none => -1

theorem firstBad_none {s : ByteArray} {l : List Nat} (h : ∀ i ∈ l, okR s i = true) : firstBad s l = -1 := by
  unfold firstBad
  rw [List.find?_eq_none.2 (fun i hi => by rw [h i hi]; decide)]
theorem firstBad_at {s : ByteArray} {l rest : List Nat} {i : Nat} (h : ∀ j ∈ l, okR s j = true) (hi : okR s i = false) : firstBad s (l ++ i :: rest) = (i : Int) := by
  unfold firstBad
  rw [List.find?_append, List.find?_eq_none.2 (fun j hj => by rw [h j hj]; decide)]
  simp [hi]

set_option maxRecDepth 100000 in
set_option maxHeartbeats 2000000 in
theorem badAt_in (s : ByteArray) (hs : s.size ≤ 140737488355328) (w : World) :
    Calls Tryz.prog 108 #[.string s] w fun e W' => e = .returned (.int .i64 (firstBad s (allL s))) ∧ Below w.heap.size w W' := by
  refine (callsIn_wide (n := 6)).1 ?_
  have hlen := allL_length s
  have hs0 : s.size ≤ maxLen := by unfold maxLen; omega
  refine callsIn_of_wp_marks Tryz.func108 rfl trivial ?_ rfl
  simp only [Tryz.ntmps108, List.size_toArray, List.length_cons, List.length_nil, Nat.reduceAdd, Nat.reduceSub, Array.replicate_succ, Array.replicate_zero, List.push_toArray, List.append_toArray, List.nil_append, List.cons_append]
  gi_wp2_with (refine ⟨trivial, ?_⟩; gi_at_call 110; refine (all_in Fence.wide _ trivial rfl _ _).mono ?_; rintro e w' ⟨rfl, rfl⟩)
  have bS := Boxed.new w 9 (.string s)
  have bR' := Boxed.new (w.alloc (.cells #[.string s] 9)) 3 (.int .i64 0)
  have bN := Boxed.new ((w.alloc (.cells #[.string s] 9)).alloc (.cells #[.int .i64 0] 3)) 9 (.string s)
  rw [World.size_alloc] at bN bR'
  rw [World.size_alloc] at bN
  have hB0 : Below w.heap.size w (((w.alloc (.cells #[.string s] 9)).alloc (.cells #[.int .i64 0] 3)).alloc (.cells #[.string s] 9)) := (((Below.refl _ w).alloc (Nat.le_refl _) _).alloc (by simp) _).alloc (by simp; omega) _
  refine wpIn_rangeFunc_ownG rfl (by decide) (gf := 114) (lb := #[.pointer (some ⟨w.heap.size + 2, 0, none⟩)]) rfl trivial (enters_of Tryz.func114 (by kernel_rfl) rfl)
    (all_stops Fence.wide 5 trivial rfl (by decide) (w.heap.size + 2) s _ (by simp) bN.cell) walksK_t walksK_b (Below.refl _ _) (fun _ => rfl)
    (fun pre W => ((Boxed W w.heap.size 9 (.string s) ∧ Boxed W (w.heap.size + 1) 3 (.int .i64 0)) ∧ Below w.heap.size w W) ∧ ∀ x ∈ pre, okR s x.1 = true)
    (fun c pre W => (c = .ret ∧ ∃ (q : List (Pl s)) (x : Pl s), pre = q ++ [x] ∧ (∀ x ∈ q, okR s x.1 = true) ∧ okR s x.1 = false ∧ Boxed W (w.heap.size + 1) 3 (.int .i64 (x.1 : Nat))) ∧ Below w.heap.size w W)
    (OwnFrom.and (OwnFrom.and (OwnFrom.and (Own.from (boxed_own w.heap.size 9 (fun pre : List (Pl s) => .string s)) _) (Own.from (boxed_own (w.heap.size + 1) 3 (fun pre : List (Pl s) => .int .i64 0)) _)) (ownFrom_below (Nat.le_refl _) (by simp; omega))) (ownFrom_pure _ _))
    (fun c => OwnFrom.and (fun pre X Y row hs hg hr => by
      obtain ⟨hc, q, x, e, h1, h2, hb⟩ := hs
      exact ⟨hc, q, x, e, h1, h2, boxed_own (β := Unit) _ _ (fun _ => .int .i64 (x.1 : Nat)) () X Y row hb hg (fun r e => (hr r e).2)⟩) (ownFrom_below (Nat.le_refl _) (by simp; omega)))
    ⟨⟨⟨(bS.alloc _).alloc _, bR'.alloc _⟩, hB0⟩, fun x hx => by cases hx⟩
    (fun x => { tmps := #[.string s, .pointer (some ⟨w.heap.size, 0, none⟩), .pointer (some ⟨w.heap.size + 1, 0, none⟩), .int .i64 (x.1 : Nat), .int .i32 (rn s x.1 : Nat), undef, undef, undef, .string s, .func (.func 114) #[] #[.pointer (some ⟨w.heap.size + 1 + 1, 0, none⟩)], .int .i64 (x.1 : Nat), .int .i32 (rn s x.1 : Nat), undef, undef, undef, undef, undef, undef, undef, undef, undef, undef, undef, undef], defers := [] }) ?assign ?body ?done ?stop
  case assign =>
    intro l x W K hK
    gi_wp2
    exact hK
  case body =>
    rintro l pre x W ⟨⟨⟨hS, hR⟩, hB⟩, hok⟩ hlt
    have hcS := hS.cell
    have hcR := hR.cell
    have hfR := hR.frozen
    by_cases hr : rn s x.1 = 65533
    · have hrb : ((rn s x.1 : Int) != 65533) = false := by rw [bne_eq_false_iff_eq]; omega
      have Hr := hide hr
      clear hr
      cases ho : okR s x.1 with
      | true =>
        gi_wp2_with (refine ⟨trivial, ?_⟩; gi_at_call 111; refine (CallsIn.inRound l (callsIn_wide.2 (decode_in s x.1 _ hs0 x.2))).mono ?_; rintro e w' ⟨rfl, rfl⟩)
        exact ⟨KeepsFrom.refl _ _, KeepsWalks.refl _, ⟨⟨hS, hR⟩, hB⟩, fun y hy => (List.mem_append.1 hy).elim (hok y) (fun e => by simp at e; subst e; exact ho)⟩
      | false =>
        gi_wp2_with (refine ⟨trivial, ?_⟩; gi_at_call 111; refine (CallsIn.inRound l (callsIn_wide.2 (decode_in s x.1 _ hs0 x.2))).mono ?_; rintro e w' ⟨rfl, rfl⟩)
        exact ⟨(KeepsOthers.setCell _ _ _).from _, ⟨rfl, pre, x, rfl, hok, ho, hR.set _⟩, hB.setCell (p := ⟨w.heap.size + 1, 0, none⟩) (by simp) _⟩
    · have hrb : ((rn s x.1 : Int) != 65533) = true := by rw [bne_iff_ne]; omega
      have ho : okR s x.1 = true := by unfold okR; simp [hr]
      have Hr := hide hr
      clear hr
      gi_wp2
      exact ⟨KeepsFrom.refl _ _, KeepsWalks.refl _, ⟨⟨hS, hR⟩, hB⟩, fun y hy => (List.mem_append.1 hy).elim (hok y) (fun e => by simp at e; subst e; exact ho)⟩
  case done =>
    rintro D ys W hD hys ⟨⟨⟨hS, hR⟩, hB⟩, hok⟩ hK
    have hcR := hR.cell
    have hfR := hR.frozen
    have hfb : firstBad s (allL s) = -1 := firstBad_none (fun i hi => by
      rw [← hys] at hi
      obtain ⟨x, hx, rfl⟩ := List.mem_map.1 hi
      exact hok x hx)
    have Hf := hide hfb
    clear hfb
    gi_wp2
    have hK' := (KeepsOthers.setCell W ⟨w.heap.size + 1, 0, none⟩ (.int .i64 (-1))).same D _ hK rfl
    refine ⟨by simp, .inl ⟨_, _, rfl, run_takeDeferred hK', ?_⟩⟩
    have hc5 := cell_kept (World.cell?_setCell_same' W ⟨w.heap.size + 1, 0, none⟩ (.int .i64 (-1)) (by rw [hcR]; rfl)) (grownBy_putObj' _ D (.deferred none)) (fun r e => by cases e; exact ⟨_, hK', rfl⟩)
    refine ⟨.int .i64 (-1), ?_, by rw [unhide Hf], (hB.setCell (p := ⟨w.heap.size + 1, 0, none⟩) (by simp) _).trans (belowK_b (w := w) (Nat.le_refl _) _ D _ _ (by simp at hD; omega) hK' rfl rfl)⟩
    simp [results, Tryz.f108, go_sem, hc5]
  case stop =>
    rintro D c pre W hD ⟨rest, hrest⟩ ⟨⟨rfl, q, x, rfl, hq, hx, hR⟩, hB⟩ hK
    have hcR := hR.cell
    have hfb : firstBad s (allL s) = (x.1 : Nat) := by
      rw [← hrest]
      have := firstBad_at (s := s) (l := q.map (·.1)) (rest := rest) (i := x.1) (fun j hj => by
        obtain ⟨y, hy, rfl⟩ := List.mem_map.1 hj
        exact hq y hy) hx
      simpa using this
    have Hf := hide hfb
    clear hfb
    gi_wp2
    refine ⟨by simp, .inl ⟨_, _, rfl, run_takeDeferred hK, ?_⟩⟩
    have hc5 := cell_kept hcR (grownBy_putObj' _ D (.deferred none)) (fun r e => by cases e; exact ⟨_, hK, rfl⟩)
    refine ⟨.int .i64 (x.1 : Nat), ?_, by rw [unhide Hf], hB.trans (belowK_b (w := w) (Nat.le_refl _) W D _ _ (by simp at hD; omega) hK rfl rfl)⟩
    simp [results, Tryz.f108, go_sem, hc5]

end Go.Proofs.YtijjoikeceechaaGreat
