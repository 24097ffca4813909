/-
  What clump.Next answers.
-/
import Derived.Test.YtcagfapdhopmjaaNxt
set_option linter.unusedSimpArgs false
set_option linter.unusedVariables false
namespace Go.Proofs.Ytcagfapdhopmjaa
open Go.RowKit Go.Lib Go.Shelf

attribute [local go_sem] Oper.semAt_some

theorem next_neg (s : ByteArray) (a : Int) (h : a < 0) (w : World) :
    Calls Try.prog 23 #[.string s, .int .i64 a] w fun e W' => e = .returned (.int .i64 (nxt (brL s) a s.size : Nat)) ∧ Below w.heap.size w W' := by
  have hn := hide (nxt_neg (s := s) h)
  go_enter Try.func23, Try.ntmps23
  go_wp2
  refine bodyPost_ret (v := .int .i64 0) ?_ rfl ⟨by rw [unhide hn]; rfl, (((Below.refl _ w).alloc (Nat.le_refl _) _).alloc (by simp) _).alloc (by simp; omega) _⟩
  simp [results, Try.f23, go_sem]

set_option maxRecDepth 100000 in
set_option maxHeartbeats 4000000 in
theorem next_near (s : ByteArray) (k : Nat) (hs : s.size ≤ 140737488355328) (hk9 : k ≤ 9223372036854775807) (hks : k ≤ s.size) (w : World) :
    Calls Try.prog 23 #[.string s, .int .i64 (k : Nat)] w fun e W' => e = .returned (.int .i64 (nxt (brL s) (k : Int) s.size : Nat)) ∧ Below w.heap.size w W' := by
  have htz : (s.extract k s.size).size ≤ s.size - min k s.size := by rw [size_ext s k s.size (Nat.le_refl _)]; omega
  have hfound : Hid (∀ (q : List (Pl (s.extract k s.size))) (x : Pl (s.extract k s.size)) rest, (q ++ [x]).map (·.1) ++ rest = allL (s.extract k s.size) → 0 < x.1 → isBr s ((k : Int) + (x.1 : Int)) = true → (∀ y ∈ q, 0 < y.1 → isBr s ((k : Int) + (y.1 : Int)) = false) → nxt (brL s) (k : Int) s.size = k + x.1) := hide (by
    intro q x rest h h0 h1 h2
    exact nxt_found (pre := q.map (·.1)) (rest := rest) hks (by rw [← h]; simp) h0 h1 (fun y hy hy0 => by
      obtain ⟨z, hz, rfl⟩ := List.mem_map.1 hy
      exact h2 z hz hy0))
  have hnot : Hid (∀ ys : List (Pl (s.extract k s.size)), ys.map (·.1) = allL (s.extract k s.size) → (∀ y ∈ ys, 0 < y.1 → isBr s ((k : Int) + (y.1 : Int)) = false) → nxt (brL s) (k : Int) s.size = s.size) := hide (by
    intro ys h h2
    exact nxt_notfound hks (fun y hy hy0 => by
      rw [← h] at hy
      obtain ⟨z, hz, rfl⟩ := List.mem_map.1 hy
      exact h2 z hz hy0))
  have hd0 : decide ((k : Int) < 0) = false := by simp
  have hc1 : ¬ ((s.size : Int) < (k : Int)) := by omega
  refine (callsIn_wide (n := 6)).1 ?_
  refine callsIn_of_wp_marks Try.func23 rfl trivial ?_ rfl
  simp only [Try.ntmps23, List.size_toArray, List.length_cons, List.length_nil, Nat.reduceAdd, Nat.reduceSub, Array.replicate_succ, Array.replicate_zero, List.push_toArray, List.append_toArray, List.nil_append, List.cons_append]
  gi_wp2_with (refine ⟨trivial, ?_⟩; gi_at_call 37; refine (all_in Fence.wide _ trivial rfl _ _).mono ?_; rintro e w' ⟨rfl, rfl⟩)
  have b0 := Boxed.new w 9 (.string s)
  have b1 := Boxed.new (w.alloc (.cells #[.string s] 9)) 3 (.int .i64 (k : Nat))
  have b2 := Boxed.new ((w.alloc (.cells #[.string s] 9)).alloc (.cells #[.int .i64 (k : Nat)] 3)) 3 (.int .i64 0)
  have b3 := Boxed.new (((w.alloc (.cells #[.string s] 9)).alloc (.cells #[.int .i64 (k : Nat)] 3)).alloc (.cells #[.int .i64 0] 3)) 9 (.string (s.extract k s.size))
  simp only [World.size_alloc] at b1 b2 b3
  have hB0 : Below w.heap.size w ((((w.alloc (.cells #[.string s] 9)).alloc (.cells #[.int .i64 (k : Nat)] 3)).alloc (.cells #[.int .i64 0] 3)).alloc (.cells #[.string (s.extract k s.size)] 9)) := ((((Below.refl _ w).alloc (Nat.le_refl _) _).alloc (by simp) _).alloc (by simp; omega) _).alloc (by simp; omega) _
  refine wpIn_rangeFunc_ownG rfl (by decide) (gf := 49) (lb := #[.pointer (some ⟨w.heap.size + 1 + 1 + 1, 0, none⟩)]) rfl trivial (enters_of Try.func49 (by kernel_rfl) rfl)
    (all_stops Fence.wide 5 trivial rfl (by decide) (w.heap.size + 1 + 1 + 1) (s.extract k s.size) _ (by simp) b3.cell) walksK_t walksK_b (Below.refl _ _) (fun _ => rfl)
    (fun pre W => (((Boxed W w.heap.size 9 (.string s) ∧ Boxed W (w.heap.size + 1) 3 (.int .i64 (k : Nat))) ∧ Boxed W (w.heap.size + 1 + 1) 3 (.int .i64 0)) ∧ Below w.heap.size w W) ∧ ∀ x ∈ pre, 0 < x.1 → isBr s ((k : Int) + (x.1 : Int)) = false)
    (fun c pre W => (c = .ret ∧ ∃ (q : List (Pl (s.extract k s.size))) (x : Pl (s.extract k s.size)), pre = q ++ [x] ∧ (∀ x ∈ q, 0 < x.1 → isBr s ((k : Int) + (x.1 : Int)) = false) ∧ 0 < x.1 ∧ isBr s ((k : Int) + (x.1 : Int)) = true ∧ Boxed W (w.heap.size + 1 + 1) 3 (.int .i64 ((k : Int) + (x.1 : Int)))) ∧ Below w.heap.size w W)
    (OwnFrom.and (OwnFrom.and (OwnFrom.and (OwnFrom.and (Own.from (boxed_own w.heap.size 9 (fun pre : List (Pl (s.extract k s.size)) => .string s)) _) (Own.from (boxed_own (w.heap.size + 1) 3 (fun pre : List (Pl (s.extract k s.size)) => .int .i64 (k : Nat))) _)) (Own.from (boxed_own (w.heap.size + 1 + 1) 3 (fun pre : List (Pl (s.extract k s.size)) => .int .i64 0)) _)) (ownFrom_below (Nat.le_refl _) (by simp; omega))) (ownFrom_pure _ _))
    (fun c => OwnFrom.and (fun pre X Y row hs hg hr => by
      obtain ⟨hc, q, x, e, h1, h2, h3, hb⟩ := hs
      exact ⟨hc, q, x, e, h1, h2, h3, boxed_own (β := Unit) _ _ (fun _ => .int .i64 ((k : Int) + (x.1 : Int))) () X Y row hb hg (fun r e => (hr r e).2)⟩) (ownFrom_below (Nat.le_refl _) (by simp; omega)))
    ⟨⟨⟨⟨((b0.alloc _).alloc _).alloc _, (b1.alloc _).alloc _⟩, b2.alloc _⟩, hB0⟩, fun x hx => by cases hx⟩
    (fun x => { tmps := #[.string s, .int .i64 (k : Nat), .pointer (some ⟨w.heap.size, 0, none⟩), .pointer (some ⟨w.heap.size + 1, 0, none⟩), .pointer (some ⟨w.heap.size + 1 + 1, 0, none⟩), .int .i64 (x.1 : Nat), .int .i64 (k : Nat), .bool false, .string s, .int .i64 (k : Nat), .string s, .int .i64 (s.size : Nat), .int .i64 (k : Nat), .string (s.extract k s.size), .func (.func 49) #[] #[.pointer (some ⟨w.heap.size + 1 + 1 + 1, 0, none⟩)], .int .i64 (x.1 : Nat), .int .i32 (rn (s.extract k s.size) x.1 : Nat), undef, undef, undef, undef, undef, undef, undef, undef, undef, undef, undef, undef, undef, undef], defers := [] }) ?assign ?body ?done ?stop
  case assign =>
    intro l x W K hK
    gi_wp2
    exact hK
  case body =>
    rintro l pre x W ⟨⟨⟨⟨hS, hA⟩, hR⟩, hB⟩, hok⟩ hlt
    have hx2 := x.2
    have hcS := hS.cell
    have hcA := hA.cell
    have hsz := hB.size
    have hR2 := hide (fun (w' : World) (hb : Below W.heap.size W w') => (⟨boxed_below hS hb, boxed_below hA hb, boxed_below hR hb⟩ : Boxed w' w.heap.size 9 (.string s) ∧ Boxed w' (w.heap.size + 1) 3 (.int .i64 (k : Nat)) ∧ Boxed w' (w.heap.size + 1 + 1) 3 (.int .i64 0)))
    by_cases h0 : 0 < x.1
    · have i0 : (0 : Int) < (x.1 : Int) := by omega
      have i9 : (k : Int) + (x.1 : Int) ≤ 9223372036854775807 := by omega
      cases hbr : isBr s ((k : Int) + (x.1 : Int)) with
      | false =>
        gi_wp2_with (refine ⟨trivial, ?_⟩; gi_at_call 14; refine (CallsIn.inRound l (callsIn_wide.2 (break_in _ _ hs _))).mono ?_; rintro e w' ⟨rfl, hb⟩; rw [hbr])
        obtain ⟨hS2, hA2, hR3⟩ := unhide hR2 _ hb
        exact ⟨keepsFrom_below hb, keepsWalks_below hb, ⟨⟨⟨hS2, hA2⟩, hR3⟩, hB.trans (hb.mono hsz)⟩, fun y hy => (List.mem_append.1 hy).elim (hok y) (fun e => by simp at e; subst e; exact fun _ => hbr)⟩
      | true =>
        gi_wp2_with (refine ⟨trivial, ?_⟩; gi_at_call 14; refine (CallsIn.inRound l (callsIn_wide.2 (break_in _ _ hs _))).mono ?_; rintro e w' ⟨rfl, hb⟩; rw [hbr]; obtain ⟨hS2, hA2, hR3⟩ := unhide hR2 _ hb; have c1 := hA2.cell; have c2 := hR3.cell; have f2 := hR3.frozen)
        exact ⟨(keepsFrom_below hb).trans ((KeepsOthers.setCell _ _ _).from _), ⟨rfl, pre, x, rfl, hok, h0, hbr, hR3.set _⟩, (hB.trans (hb.mono hsz)).setCell (p := ⟨w.heap.size + 1 + 1, 0, none⟩) (by simp; omega) _⟩
    · have i0 : ¬ ((0 : Int) < (x.1 : Int)) := by omega
      gi_wp2
      refine ⟨trivial, ?_⟩
      gi_wp2
      exact ⟨KeepsFrom.refl _ _, KeepsWalks.refl _, ⟨⟨⟨hS, hA⟩, hR⟩, hB⟩, fun y hy => (List.mem_append.1 hy).elim (hok y) (fun e => by simp at e; subst e; exact fun h => absurd h h0)⟩
  case done =>
    rintro D ys W hD hys ⟨⟨⟨⟨hS, hA⟩, hR⟩, hB⟩, hok⟩ hK
    have hcS := hS.cell
    have hcR := hR.cell
    have hfR := hR.frozen
    have Hf := hide (unhide hnot ys hys hok)
    gi_wp2
    have hK' := (KeepsOthers.setCell W ⟨w.heap.size + 1 + 1, 0, none⟩ (.int .i64 (s.size : Nat))).same D _ hK rfl
    refine ⟨by simp, .inl ⟨_, _, rfl, run_takeDeferred hK', ?_⟩⟩
    have hc5 := cell_kept (World.cell?_setCell_same' W ⟨w.heap.size + 1 + 1, 0, none⟩ (.int .i64 (s.size : Nat)) (by rw [hcR]; rfl)) (grownBy_putObj' _ D (.deferred none)) (fun r e => by cases e; exact ⟨_, hK', rfl⟩)
    refine ⟨.int .i64 (s.size : Nat), ?_, by rw [unhide Hf], (hB.setCell (p := ⟨w.heap.size + 1 + 1, 0, none⟩) (by simp; omega) _).trans (belowK_b (w := w) (Nat.le_refl _) _ D _ _ (by simp at hD; omega) hK' rfl rfl)⟩
    simp [results, Try.f23, go_sem, hc5]
  case stop =>
    rintro D c pre W hD ⟨rest, hrest⟩ ⟨⟨rfl, q, x, rfl, hq, hx0, hx, hR⟩, hB⟩ hK
    have hcR := hR.cell
    have Hf := hide (unhide hfound q x rest hrest hx0 hx hq)
    gi_wp2
    refine ⟨by simp, .inl ⟨_, _, rfl, run_takeDeferred hK, ?_⟩⟩
    have hc5 := cell_kept hcR (grownBy_putObj' _ D (.deferred none)) (fun r e => by cases e; exact ⟨_, hK, rfl⟩)
    refine ⟨.int .i64 ((k : Int) + (x.1 : Int)), ?_, by rw [unhide Hf]; simp, hB.trans (belowK_b (w := w) (Nat.le_refl _) W D _ _ (by simp at hD; omega) hK rfl rfl)⟩
    simp [results, Try.f23, go_sem, hc5]

set_option maxRecDepth 100000 in
set_option maxHeartbeats 4000000 in
theorem next_far (s : ByteArray) (k : Nat) (hs : s.size ≤ 140737488355328) (hk9 : k ≤ 9223372036854775807) (hks : s.size < k) (w : World) :
    Calls Try.prog 23 #[.string s, .int .i64 (k : Nat)] w fun e W' => e = .returned (.int .i64 (nxt (brL s) (k : Int) s.size : Nat)) ∧ Below w.heap.size w W' := by
  have htz : (ByteArray.empty).size ≤ s.size - min k s.size := by simp
  have hfound : Hid (∀ (q : List (Pl (ByteArray.empty))) (x : Pl (ByteArray.empty)) rest, (q ++ [x]).map (·.1) ++ rest = allL (ByteArray.empty) → 0 < x.1 → isBr s ((k : Int) + (x.1 : Int)) = true → (∀ y ∈ q, 0 < y.1 → isBr s ((k : Int) + (y.1 : Int)) = false) → nxt (brL s) (k : Int) s.size = k + x.1) := hide (by
    intro q x rest h h0 h1 h2
    have := x.2
    simp at this)
  have hnot : Hid (∀ ys : List (Pl (ByteArray.empty)), ys.map (·.1) = allL (ByteArray.empty) → (∀ y ∈ ys, 0 < y.1 → isBr s ((k : Int) + (y.1 : Int)) = false) → nxt (brL s) (k : Int) s.size = s.size) := hide (by
    intro ys h h2
    exact nxt_far (by omega))
  have hd0 : decide ((k : Int) < 0) = false := by simp
  have hc1 : ((s.size : Int) < (k : Int)) := by omega
  refine (callsIn_wide (n := 6)).1 ?_
  refine callsIn_of_wp_marks Try.func23 rfl trivial ?_ rfl
  simp only [Try.ntmps23, List.size_toArray, List.length_cons, List.length_nil, Nat.reduceAdd, Nat.reduceSub, Array.replicate_succ, Array.replicate_zero, List.push_toArray, List.append_toArray, List.nil_append, List.cons_append]
  gi_wp2_with (refine ⟨trivial, ?_⟩; gi_at_call 37; refine (all_in Fence.wide _ trivial rfl _ _).mono ?_; rintro e w' ⟨rfl, rfl⟩)
  have b0 := Boxed.new w 9 (.string s)
  have b1 := Boxed.new (w.alloc (.cells #[.string s] 9)) 3 (.int .i64 (k : Nat))
  have b2 := Boxed.new ((w.alloc (.cells #[.string s] 9)).alloc (.cells #[.int .i64 (k : Nat)] 3)) 3 (.int .i64 0)
  have b3 := Boxed.new (((w.alloc (.cells #[.string s] 9)).alloc (.cells #[.int .i64 (k : Nat)] 3)).alloc (.cells #[.int .i64 0] 3)) 9 (.string (ByteArray.empty))
  simp only [World.size_alloc] at b1 b2 b3
  have hB0 : Below w.heap.size w ((((w.alloc (.cells #[.string s] 9)).alloc (.cells #[.int .i64 (k : Nat)] 3)).alloc (.cells #[.int .i64 0] 3)).alloc (.cells #[.string (ByteArray.empty)] 9)) := ((((Below.refl _ w).alloc (Nat.le_refl _) _).alloc (by simp) _).alloc (by simp; omega) _).alloc (by simp; omega) _
  refine wpIn_rangeFunc_ownG rfl (by decide) (gf := 49) (lb := #[.pointer (some ⟨w.heap.size + 1 + 1 + 1, 0, none⟩)]) rfl trivial (enters_of Try.func49 (by kernel_rfl) rfl)
    (all_stops Fence.wide 5 trivial rfl (by decide) (w.heap.size + 1 + 1 + 1) (ByteArray.empty) _ (by simp) b3.cell) walksK_t walksK_b (Below.refl _ _) (fun _ => rfl)
    (fun pre W => (((Boxed W w.heap.size 9 (.string s) ∧ Boxed W (w.heap.size + 1) 3 (.int .i64 (k : Nat))) ∧ Boxed W (w.heap.size + 1 + 1) 3 (.int .i64 0)) ∧ Below w.heap.size w W) ∧ ∀ x ∈ pre, 0 < x.1 → isBr s ((k : Int) + (x.1 : Int)) = false)
    (fun c pre W => (c = .ret ∧ ∃ (q : List (Pl (ByteArray.empty))) (x : Pl (ByteArray.empty)), pre = q ++ [x] ∧ (∀ x ∈ q, 0 < x.1 → isBr s ((k : Int) + (x.1 : Int)) = false) ∧ 0 < x.1 ∧ isBr s ((k : Int) + (x.1 : Int)) = true ∧ Boxed W (w.heap.size + 1 + 1) 3 (.int .i64 ((k : Int) + (x.1 : Int)))) ∧ Below w.heap.size w W)
    (OwnFrom.and (OwnFrom.and (OwnFrom.and (OwnFrom.and (Own.from (boxed_own w.heap.size 9 (fun pre : List (Pl (ByteArray.empty)) => .string s)) _) (Own.from (boxed_own (w.heap.size + 1) 3 (fun pre : List (Pl (ByteArray.empty)) => .int .i64 (k : Nat))) _)) (Own.from (boxed_own (w.heap.size + 1 + 1) 3 (fun pre : List (Pl (ByteArray.empty)) => .int .i64 0)) _)) (ownFrom_below (Nat.le_refl _) (by simp; omega))) (ownFrom_pure _ _))
    (fun c => OwnFrom.and (fun pre X Y row hs hg hr => by
      obtain ⟨hc, q, x, e, h1, h2, h3, hb⟩ := hs
      exact ⟨hc, q, x, e, h1, h2, h3, boxed_own (β := Unit) _ _ (fun _ => .int .i64 ((k : Int) + (x.1 : Int))) () X Y row hb hg (fun r e => (hr r e).2)⟩) (ownFrom_below (Nat.le_refl _) (by simp; omega)))
    ⟨⟨⟨⟨((b0.alloc _).alloc _).alloc _, (b1.alloc _).alloc _⟩, b2.alloc _⟩, hB0⟩, fun x hx => by cases hx⟩
    (fun x => { tmps := #[.string s, .int .i64 (k : Nat), .pointer (some ⟨w.heap.size, 0, none⟩), .pointer (some ⟨w.heap.size + 1, 0, none⟩), .pointer (some ⟨w.heap.size + 1 + 1, 0, none⟩), .int .i64 (x.1 : Nat), .int .i64 (k : Nat), .bool false, .string s, .int .i64 (k : Nat), .string s, .int .i64 (s.size : Nat), .int .i64 (s.size : Nat), .string (ByteArray.empty), .func (.func 49) #[] #[.pointer (some ⟨w.heap.size + 1 + 1 + 1, 0, none⟩)], .int .i64 (x.1 : Nat), .int .i32 (rn (ByteArray.empty) x.1 : Nat), undef, undef, undef, undef, undef, undef, undef, undef, undef, undef, undef, undef, undef, undef], defers := [] }) ?assign ?body ?done ?stop
  case assign =>
    intro l x W K hK
    gi_wp2
    exact hK
  case body =>
    rintro l pre x W ⟨⟨⟨⟨hS, hA⟩, hR⟩, hB⟩, hok⟩ hlt
    have hx2 := x.2
    simp at hx2
  case done =>
    rintro D ys W hD hys ⟨⟨⟨⟨hS, hA⟩, hR⟩, hB⟩, hok⟩ hK
    have hcS := hS.cell
    have hcR := hR.cell
    have hfR := hR.frozen
    have Hf := hide (unhide hnot ys hys hok)
    gi_wp2
    have hK' := (KeepsOthers.setCell W ⟨w.heap.size + 1 + 1, 0, none⟩ (.int .i64 (s.size : Nat))).same D _ hK rfl
    refine ⟨by simp, .inl ⟨_, _, rfl, run_takeDeferred hK', ?_⟩⟩
    have hc5 := cell_kept (World.cell?_setCell_same' W ⟨w.heap.size + 1 + 1, 0, none⟩ (.int .i64 (s.size : Nat)) (by rw [hcR]; rfl)) (grownBy_putObj' _ D (.deferred none)) (fun r e => by cases e; exact ⟨_, hK', rfl⟩)
    refine ⟨.int .i64 (s.size : Nat), ?_, by rw [unhide Hf], (hB.setCell (p := ⟨w.heap.size + 1 + 1, 0, none⟩) (by simp; omega) _).trans (belowK_b (w := w) (Nat.le_refl _) _ D _ _ (by simp at hD; omega) hK' rfl rfl)⟩
    simp [results, Try.f23, go_sem, hc5]
  case stop =>
    rintro D c pre W hD ⟨rest, hrest⟩ ⟨⟨rfl, q, x, rfl, hq, hx0, hx, hR⟩, hB⟩ hK
    have hcR := hR.cell
    have Hf := hide (unhide hfound q x rest hrest hx0 hx hq)
    gi_wp2
    refine ⟨by simp, .inl ⟨_, _, rfl, run_takeDeferred hK, ?_⟩⟩
    have hc5 := cell_kept hcR (grownBy_putObj' _ D (.deferred none)) (fun r e => by cases e; exact ⟨_, hK, rfl⟩)
    refine ⟨.int .i64 ((k : Int) + (x.1 : Int)), ?_, by rw [unhide Hf]; simp, hB.trans (belowK_b (w := w) (Nat.le_refl _) W D _ _ (by simp at hD; omega) hK rfl rfl)⟩
    simp [results, Try.f23, go_sem, hc5]

/-- clump.Next, at every text and every number. -/
theorem next_in (s : ByteArray) (a : Int) (hs : s.size ≤ 140737488355328) (ha : a ≤ 9223372036854775807) (w : World) :
    Calls Try.prog 23 #[.string s, .int .i64 a] w fun e W' => e = .returned (.int .i64 (nxt (brL s) a s.size : Nat)) ∧ Below w.heap.size w W' := by
  by_cases h : a < 0
  · exact next_neg s a h w
  · obtain ⟨k, rfl⟩ := Int.eq_ofNat_of_zero_le (show 0 ≤ a by omega)
    by_cases hk : k ≤ s.size
    · exact next_near s k hs (by omega) hk w
    · exact next_far s k hs (by omega) (by omega) w

end Go.Proofs.Ytcagfapdhopmjaa
