/-
  What clump.Prev answers.
-/
import Derived.Test.YtcagfapdhopmjaaNxt2
set_option linter.unusedSimpArgs false
set_option linter.unusedVariables false
namespace Go.Proofs.Ytcagfapdhopmjaa
open Go.RowKit Go.Lib Go.Shelf

attribute [local go_sem] Oper.semAt_some

theorem prev_far (s : ByteArray) (a : Int) (hs : s.size ≤ 140737488355328) (h : (s.size : Int) < a) (w : World) :
    Calls Try.prog 25 #[.string s, .int .i64 a] w fun e W' => e = .returned (.int .i64 (prv (brL s) a : Nat)) ∧ Below w.heap.size w W' := by
  have hn := hide (prv_far (s := s) h)
  go_enter Try.func25, Try.ntmps25
  go_wp2
  refine bodyPost_ret (v := .int .i64 (s.size : Nat)) ?_ rfl ⟨by rw [unhide hn], (((Below.refl _ w).alloc (Nat.le_refl _) _).alloc (by simp) _)⟩
  simp [results, Try.f25, go_sem]

set_option maxRecDepth 100000 in
set_option maxHeartbeats 4000000 in
theorem prev_near (s : ByteArray) (k : Nat) (hs : s.size ≤ 140737488355328) (hk0 : 0 < k) (hks : k ≤ s.size) (w : World) :
    Calls Try.prog 25 #[.string s, .int .i64 (k : Int)] w fun e W' => e = .returned (.int .i64 (prv (brL s) (k : Int) : Nat)) ∧ Below w.heap.size w W' := by
  have hfound : Hid (∀ (q : List (Pl (s.extract 0 k))) (x : Pl (s.extract 0 k)) rest, (q ++ [x]).map (·.1) ++ rest = (allL (s.extract 0 k)).reverse → isBr s (x.1 : Int) = true → (∀ y ∈ q, isBr s (y.1 : Int) = false) → prv (brL s) (k : Int) = x.1) := hide (by
    intro q x rest h h1 h2
    exact prv_found (pre := q.map (·.1)) (rest := rest) hks (by rw [← h]; simp) h1 (fun y hy => by
      obtain ⟨z, hz, rfl⟩ := List.mem_map.1 hy
      exact h2 z hz))
  have hnot : Hid (∀ ys : List (Pl (s.extract 0 k)), ys.map (·.1) = (allL (s.extract 0 k)).reverse → (∀ y ∈ ys, isBr s (y.1 : Int) = false) → prv (brL s) (k : Int) = 0) := hide (by
    intro ys h h2
    exact prv_notfound hks (fun y hy => by
      rw [← h] at hy
      obtain ⟨z, hz, rfl⟩ := List.mem_map.1 hy
      exact h2 z hz))
  have hts : (s.extract 0 k).size ≤ maxLen := by unfold maxLen; rw [size_ext s 0 k hks]; omega
  have hd0 : decide ((s.size : Int) < (k : Int)) = false := by simp; omega
  refine (callsIn_wide (n := 6)).1 ?_
  refine callsIn_of_wp_marks Try.func25 rfl trivial ?_ rfl
  simp only [Try.ntmps25, List.size_toArray, List.length_cons, List.length_nil, Nat.reduceAdd, Nat.reduceSub, Array.replicate_succ, Array.replicate_zero, List.push_toArray, List.append_toArray, List.nil_append, List.cons_append]
  gi_wp2_with (refine ⟨trivial, ?_⟩; gi_at_call 38; refine (back_in Fence.wide _ trivial rfl _ _).mono ?_; rintro e w' ⟨rfl, rfl⟩)
  have b0 := Boxed.new w 9 (.string s)
  have b1 := Boxed.new (w.alloc (.cells #[.string s] 9)) 3 (.int .i64 0)
  have b2 := Boxed.new ((w.alloc (.cells #[.string s] 9)).alloc (.cells #[.int .i64 0] 3)) 9 (.string (s.extract 0 k))
  simp only [World.size_alloc] at b1 b2
  have hB0 : Below w.heap.size w (((w.alloc (.cells #[.string s] 9)).alloc (.cells #[.int .i64 0] 3)).alloc (.cells #[.string (s.extract 0 k)] 9)) := (((Below.refl _ w).alloc (Nat.le_refl _) _).alloc (by simp) _).alloc (by simp; omega) _
  refine wpIn_rangeFunc_ownG rfl (by decide) (gf := 50) (lb := #[.pointer (some ⟨w.heap.size + 1 + 1, 0, none⟩)]) rfl trivial (enters_of Try.func50 (by kernel_rfl) rfl)
    (back_stops 5 (by decide) (w.heap.size + 1 + 1) (s.extract 0 k) hts _ b2) KeepsB.trans (keepsB_b (by simp)) (Below.refl _ _) (fun _ => rfl)
    (fun pre W => ((Boxed W w.heap.size 9 (.string s) ∧ Boxed W (w.heap.size + 1) 3 (.int .i64 0)) ∧ Below w.heap.size w W) ∧ ∀ x ∈ pre, isBr s (x.1 : Int) = false)
    (fun c pre W => (c = .ret ∧ ∃ (q : List (Pl (s.extract 0 k))) (x : Pl (s.extract 0 k)), pre = q ++ [x] ∧ (∀ x ∈ q, isBr s (x.1 : Int) = false) ∧ isBr s (x.1 : Int) = true ∧ Boxed W (w.heap.size + 1) 3 (.int .i64 (x.1 : Nat))) ∧ Below w.heap.size w W)
    (OwnFrom.and (OwnFrom.and (OwnFrom.and (Own.from (boxed_own w.heap.size 9 (fun pre : List (Pl (s.extract 0 k)) => .string s)) _) (Own.from (boxed_own (w.heap.size + 1) 3 (fun pre : List (Pl (s.extract 0 k)) => .int .i64 0)) _)) (ownFrom_below (Nat.le_refl _) (by simp; omega))) (ownFrom_pure _ _))
    (fun c => OwnFrom.and (fun pre X Y row hs hg hr => by
      obtain ⟨hc, q, x, e, h1, h2, hb⟩ := hs
      exact ⟨hc, q, x, e, h1, h2, boxed_own (β := Unit) _ _ (fun _ => .int .i64 (x.1 : Nat)) () X Y row hb hg (fun r e => (hr r e).2)⟩) (ownFrom_below (Nat.le_refl _) (by simp; omega)))
    ⟨⟨⟨(b0.alloc _).alloc _, b1.alloc _⟩, hB0⟩, fun x hx => by cases hx⟩
    (fun x => { tmps := #[.string s, .int .i64 (k : Int), .pointer (some ⟨w.heap.size, 0, none⟩), undef, .pointer (some ⟨w.heap.size + 1, 0, none⟩), .int .i64 (x.1 : Nat), .int .i64 (k : Int), .string s, .int .i64 (s.size : Nat), .bool false, undef, undef, .string s, .int .i64 (k : Int), .int .i64 (k : Nat), .string (s.extract 0 k), .func (.func 50) #[] #[.pointer (some ⟨w.heap.size + 1 + 1, 0, none⟩)], .int .i64 (x.1 : Nat), .int .i32 (rn (s.extract 0 k) x.1 : Nat), undef, undef, undef, undef], defers := [] }) ?assign ?body ?done ?stop
  case assign =>
    intro l x W K hK
    gi_wp2
    exact hK
  case body =>
    rintro l pre x W ⟨⟨⟨hS, hR⟩, hB⟩, hok⟩ hlt
    have hx2 := x.2
    have hcS := hS.cell
    have hsz := hB.size
    have hR2 := hide (fun (w' : World) (hb : Below W.heap.size W w') => (⟨boxed_below hS hb, boxed_below hR hb⟩ : Boxed w' w.heap.size 9 (.string s) ∧ Boxed w' (w.heap.size + 1) 3 (.int .i64 0)))
    cases hbr : isBr s (x.1 : Int) with
    | false =>
      gi_wp2_with (refine ⟨trivial, ?_⟩; gi_at_call 14; refine (CallsIn.inRound l (callsIn_wide.2 (break_in _ _ hs _))).mono ?_; rintro e w' ⟨rfl, hb⟩; rw [hbr])
      obtain ⟨hS2, hR3⟩ := unhide hR2 _ hb
      exact ⟨keepsFrom_below hb, KeepsB.of_below hb, ⟨⟨hS2, hR3⟩, hB.trans (hb.mono hsz)⟩, fun y hy => (List.mem_append.1 hy).elim (hok y) (fun e => by simp at e; subst e; exact hbr)⟩
    | true =>
      gi_wp2_with (refine ⟨trivial, ?_⟩; gi_at_call 14; refine (CallsIn.inRound l (callsIn_wide.2 (break_in _ _ hs _))).mono ?_; rintro e w' ⟨rfl, hb⟩; rw [hbr]; obtain ⟨hS2, hR3⟩ := unhide hR2 _ hb; have c2 := hR3.cell; have f2 := hR3.frozen)
      exact ⟨(keepsFrom_below hb).trans ((KeepsOthers.setCell _ _ _).from _), ⟨rfl, pre, x, rfl, hok, hbr, hR3.set _⟩, (hB.trans (hb.mono hsz)).setCell (p := ⟨w.heap.size + 1, 0, none⟩) (by simp) _⟩
  case done =>
    rintro D ys W hD hys ⟨⟨⟨hS, hR⟩, hB⟩, hok⟩ hK
    have hcR := hR.cell
    have hfR := hR.frozen
    have Hf := hide (unhide hnot ys hys hok)
    gi_wp2
    have hK' := (KeepsOthers.setCell W ⟨w.heap.size + 1, 0, none⟩ (.int .i64 0)).same D _ hK rfl
    refine ⟨by simp, .inl ⟨_, _, rfl, run_takeDeferred hK', ?_⟩⟩
    have hc5 := cell_kept (World.cell?_setCell_same' W ⟨w.heap.size + 1, 0, none⟩ (.int .i64 0) (by rw [hcR]; rfl)) (grownBy_putObj' _ D (.deferred none)) (fun r e => by cases e; exact ⟨_, hK', rfl⟩)
    refine ⟨.int .i64 0, ?_, by rw [unhide Hf]; rfl, (hB.setCell (p := ⟨w.heap.size + 1, 0, none⟩) (by simp) _).trans (belowK_b (w := w) (Nat.le_refl _) _ D _ _ (by simp at hD; omega) hK' rfl rfl)⟩
    simp [results, Try.f25, go_sem, hc5]
  case stop =>
    rintro D c pre W hD ⟨rest, hrest⟩ ⟨⟨rfl, q, x, rfl, hq, hx, hR⟩, hB⟩ hK
    have hcR := hR.cell
    have Hf := hide (unhide hfound q x rest hrest hx hq)
    gi_wp2
    refine ⟨by simp, .inl ⟨_, _, rfl, run_takeDeferred hK, ?_⟩⟩
    have hc5 := cell_kept hcR (grownBy_putObj' _ D (.deferred none)) (fun r e => by cases e; exact ⟨_, hK, rfl⟩)
    refine ⟨.int .i64 (x.1 : Nat), ?_, by rw [unhide Hf], hB.trans (belowK_b (w := w) (Nat.le_refl _) W D _ _ (by simp at hD; omega) hK rfl rfl)⟩
    simp [results, Try.f25, go_sem, hc5]

set_option maxRecDepth 100000 in
set_option maxHeartbeats 4000000 in
theorem prev_low (s : ByteArray) (a : Int) (hs : s.size ≤ 140737488355328) (ha : a < 0) (w : World) :
    Calls Try.prog 25 #[.string s, .int .i64 a] w fun e W' => e = .returned (.int .i64 (prv (brL s) a : Nat)) ∧ Below w.heap.size w W' := by
  have hfound : Hid (∀ (q : List (Pl (ByteArray.empty))) (x : Pl (ByteArray.empty)) rest, (q ++ [x]).map (·.1) ++ rest = (allL (ByteArray.empty)).reverse → isBr s (x.1 : Int) = true → (∀ y ∈ q, isBr s (y.1 : Int) = false) → prv (brL s) a = x.1) := hide (by
    intro q x rest h h1 h2
    have := x.2
    simp at this)
  have hnot : Hid (∀ ys : List (Pl (ByteArray.empty)), ys.map (·.1) = (allL (ByteArray.empty)).reverse → (∀ y ∈ ys, isBr s (y.1 : Int) = false) → prv (brL s) a = 0) := hide (by
    intro ys h h2
    exact prv_low (by omega))
  have hts : (ByteArray.empty).size ≤ maxLen := by unfold maxLen; simp
  have hd0 : decide ((s.size : Int) < a) = false := by simp; omega
  refine (callsIn_wide (n := 6)).1 ?_
  refine callsIn_of_wp_marks Try.func25 rfl trivial ?_ rfl
  simp only [Try.ntmps25, List.size_toArray, List.length_cons, List.length_nil, Nat.reduceAdd, Nat.reduceSub, Array.replicate_succ, Array.replicate_zero, List.push_toArray, List.append_toArray, List.nil_append, List.cons_append]
  gi_wp2_with (refine ⟨trivial, ?_⟩; gi_at_call 38; refine (back_in Fence.wide _ trivial rfl _ _).mono ?_; rintro e w' ⟨rfl, rfl⟩)
  have b0 := Boxed.new w 9 (.string s)
  have b1 := Boxed.new (w.alloc (.cells #[.string s] 9)) 3 (.int .i64 0)
  have b2 := Boxed.new ((w.alloc (.cells #[.string s] 9)).alloc (.cells #[.int .i64 0] 3)) 9 (.string (ByteArray.empty))
  simp only [World.size_alloc] at b1 b2
  have hB0 : Below w.heap.size w (((w.alloc (.cells #[.string s] 9)).alloc (.cells #[.int .i64 0] 3)).alloc (.cells #[.string (ByteArray.empty)] 9)) := (((Below.refl _ w).alloc (Nat.le_refl _) _).alloc (by simp) _).alloc (by simp; omega) _
  refine wpIn_rangeFunc_ownG rfl (by decide) (gf := 50) (lb := #[.pointer (some ⟨w.heap.size + 1 + 1, 0, none⟩)]) rfl trivial (enters_of Try.func50 (by kernel_rfl) rfl)
    (back_stops 5 (by decide) (w.heap.size + 1 + 1) (ByteArray.empty) hts _ b2) KeepsB.trans (keepsB_b (by simp)) (Below.refl _ _) (fun _ => rfl)
    (fun pre W => ((Boxed W w.heap.size 9 (.string s) ∧ Boxed W (w.heap.size + 1) 3 (.int .i64 0)) ∧ Below w.heap.size w W) ∧ ∀ x ∈ pre, isBr s (x.1 : Int) = false)
    (fun c pre W => (c = .ret ∧ ∃ (q : List (Pl (ByteArray.empty))) (x : Pl (ByteArray.empty)), pre = q ++ [x] ∧ (∀ x ∈ q, isBr s (x.1 : Int) = false) ∧ isBr s (x.1 : Int) = true ∧ Boxed W (w.heap.size + 1) 3 (.int .i64 (x.1 : Nat))) ∧ Below w.heap.size w W)
    (OwnFrom.and (OwnFrom.and (OwnFrom.and (Own.from (boxed_own w.heap.size 9 (fun pre : List (Pl (ByteArray.empty)) => .string s)) _) (Own.from (boxed_own (w.heap.size + 1) 3 (fun pre : List (Pl (ByteArray.empty)) => .int .i64 0)) _)) (ownFrom_below (Nat.le_refl _) (by simp; omega))) (ownFrom_pure _ _))
    (fun c => OwnFrom.and (fun pre X Y row hs hg hr => by
      obtain ⟨hc, q, x, e, h1, h2, hb⟩ := hs
      exact ⟨hc, q, x, e, h1, h2, boxed_own (β := Unit) _ _ (fun _ => .int .i64 (x.1 : Nat)) () X Y row hb hg (fun r e => (hr r e).2)⟩) (ownFrom_below (Nat.le_refl _) (by simp; omega)))
    ⟨⟨⟨(b0.alloc _).alloc _, b1.alloc _⟩, hB0⟩, fun x hx => by cases hx⟩
    (fun x => { tmps := #[.string s, .int .i64 a, .pointer (some ⟨w.heap.size, 0, none⟩), undef, .pointer (some ⟨w.heap.size + 1, 0, none⟩), .int .i64 (x.1 : Nat), .int .i64 a, .string s, .int .i64 (s.size : Nat), .bool false, undef, undef, .string s, .int .i64 a, .int .i64 0, .string (ByteArray.empty), .func (.func 50) #[] #[.pointer (some ⟨w.heap.size + 1 + 1, 0, none⟩)], .int .i64 (x.1 : Nat), .int .i32 (rn (ByteArray.empty) x.1 : Nat), undef, undef, undef, undef], defers := [] }) ?assign ?body ?done ?stop
  case assign =>
    intro l x W K hK
    gi_wp2
    exact hK
  case body =>
    rintro l pre x W ⟨⟨⟨hS, hR⟩, hB⟩, hok⟩ hlt
    have hx2 := x.2
    simp at hx2
  case done =>
    rintro D ys W hD hys ⟨⟨⟨hS, hR⟩, hB⟩, hok⟩ hK
    have hcR := hR.cell
    have hfR := hR.frozen
    have Hf := hide (unhide hnot ys hys hok)
    gi_wp2
    have hK' := (KeepsOthers.setCell W ⟨w.heap.size + 1, 0, none⟩ (.int .i64 0)).same D _ hK rfl
    refine ⟨by simp, .inl ⟨_, _, rfl, run_takeDeferred hK', ?_⟩⟩
    have hc5 := cell_kept (World.cell?_setCell_same' W ⟨w.heap.size + 1, 0, none⟩ (.int .i64 0) (by rw [hcR]; rfl)) (grownBy_putObj' _ D (.deferred none)) (fun r e => by cases e; exact ⟨_, hK', rfl⟩)
    refine ⟨.int .i64 0, ?_, by rw [unhide Hf]; rfl, (hB.setCell (p := ⟨w.heap.size + 1, 0, none⟩) (by simp) _).trans (belowK_b (w := w) (Nat.le_refl _) _ D _ _ (by simp at hD; omega) hK' rfl rfl)⟩
    simp [results, Try.f25, go_sem, hc5]
  case stop =>
    rintro D c pre W hD ⟨rest, hrest⟩ ⟨⟨rfl, q, x, rfl, hq, hx, hR⟩, hB⟩ hK
    have hcR := hR.cell
    have Hf := hide (unhide hfound q x rest hrest hx hq)
    gi_wp2
    refine ⟨by simp, .inl ⟨_, _, rfl, run_takeDeferred hK, ?_⟩⟩
    have hc5 := cell_kept hcR (grownBy_putObj' _ D (.deferred none)) (fun r e => by cases e; exact ⟨_, hK, rfl⟩)
    refine ⟨.int .i64 (x.1 : Nat), ?_, by rw [unhide Hf], hB.trans (belowK_b (w := w) (Nat.le_refl _) W D _ _ (by simp at hD; omega) hK rfl rfl)⟩
    simp [results, Try.f25, go_sem, hc5]

set_option maxRecDepth 100000 in
set_option maxHeartbeats 4000000 in
theorem prev_zero (s : ByteArray) (hs : s.size ≤ 140737488355328) (w : World) :
    Calls Try.prog 25 #[.string s, .int .i64 (0 : Int)] w fun e W' => e = .returned (.int .i64 (prv (brL s) (0 : Int) : Nat)) ∧ Below w.heap.size w W' := by
  have hfound : Hid (∀ (q : List (Pl (ByteArray.empty))) (x : Pl (ByteArray.empty)) rest, (q ++ [x]).map (·.1) ++ rest = (allL (ByteArray.empty)).reverse → isBr s (x.1 : Int) = true → (∀ y ∈ q, isBr s (y.1 : Int) = false) → prv (brL s) (0 : Int) = x.1) := hide (by
    intro q x rest h h1 h2
    have := x.2
    simp at this)
  have hnot : Hid (∀ ys : List (Pl (ByteArray.empty)), ys.map (·.1) = (allL (ByteArray.empty)).reverse → (∀ y ∈ ys, isBr s (y.1 : Int) = false) → prv (brL s) (0 : Int) = 0) := hide (by
    intro ys h h2
    exact prv_low (by omega))
  have hts : (ByteArray.empty).size ≤ maxLen := by unfold maxLen; simp
  have hd0 : decide ((s.size : Int) < (0 : Int)) = false := by simp
  refine (callsIn_wide (n := 6)).1 ?_
  refine callsIn_of_wp_marks Try.func25 rfl trivial ?_ rfl
  simp only [Try.ntmps25, List.size_toArray, List.length_cons, List.length_nil, Nat.reduceAdd, Nat.reduceSub, Array.replicate_succ, Array.replicate_zero, List.push_toArray, List.append_toArray, List.nil_append, List.cons_append]
  gi_wp2_with (refine ⟨trivial, ?_⟩; gi_at_call 38; refine (back_in Fence.wide _ trivial rfl _ _).mono ?_; rintro e w' ⟨rfl, rfl⟩)
  have b0 := Boxed.new w 9 (.string s)
  have b1 := Boxed.new (w.alloc (.cells #[.string s] 9)) 3 (.int .i64 0)
  have b2 := Boxed.new ((w.alloc (.cells #[.string s] 9)).alloc (.cells #[.int .i64 0] 3)) 9 (.string (ByteArray.empty))
  simp only [World.size_alloc] at b1 b2
  have hB0 : Below w.heap.size w (((w.alloc (.cells #[.string s] 9)).alloc (.cells #[.int .i64 0] 3)).alloc (.cells #[.string (ByteArray.empty)] 9)) := (((Below.refl _ w).alloc (Nat.le_refl _) _).alloc (by simp) _).alloc (by simp; omega) _
  refine wpIn_rangeFunc_ownG rfl (by decide) (gf := 50) (lb := #[.pointer (some ⟨w.heap.size + 1 + 1, 0, none⟩)]) rfl trivial (enters_of Try.func50 (by kernel_rfl) rfl)
    (back_stops 5 (by decide) (w.heap.size + 1 + 1) (ByteArray.empty) hts _ b2) KeepsB.trans (keepsB_b (by simp)) (Below.refl _ _) (fun _ => rfl)
    (fun pre W => ((Boxed W w.heap.size 9 (.string s) ∧ Boxed W (w.heap.size + 1) 3 (.int .i64 0)) ∧ Below w.heap.size w W) ∧ ∀ x ∈ pre, isBr s (x.1 : Int) = false)
    (fun c pre W => (c = .ret ∧ ∃ (q : List (Pl (ByteArray.empty))) (x : Pl (ByteArray.empty)), pre = q ++ [x] ∧ (∀ x ∈ q, isBr s (x.1 : Int) = false) ∧ isBr s (x.1 : Int) = true ∧ Boxed W (w.heap.size + 1) 3 (.int .i64 (x.1 : Nat))) ∧ Below w.heap.size w W)
    (OwnFrom.and (OwnFrom.and (OwnFrom.and (Own.from (boxed_own w.heap.size 9 (fun pre : List (Pl (ByteArray.empty)) => .string s)) _) (Own.from (boxed_own (w.heap.size + 1) 3 (fun pre : List (Pl (ByteArray.empty)) => .int .i64 0)) _)) (ownFrom_below (Nat.le_refl _) (by simp; omega))) (ownFrom_pure _ _))
    (fun c => OwnFrom.and (fun pre X Y row hs hg hr => by
      obtain ⟨hc, q, x, e, h1, h2, hb⟩ := hs
      exact ⟨hc, q, x, e, h1, h2, boxed_own (β := Unit) _ _ (fun _ => .int .i64 (x.1 : Nat)) () X Y row hb hg (fun r e => (hr r e).2)⟩) (ownFrom_below (Nat.le_refl _) (by simp; omega)))
    ⟨⟨⟨(b0.alloc _).alloc _, b1.alloc _⟩, hB0⟩, fun x hx => by cases hx⟩
    (fun x => { tmps := #[.string s, .int .i64 (0 : Int), .pointer (some ⟨w.heap.size, 0, none⟩), undef, .pointer (some ⟨w.heap.size + 1, 0, none⟩), .int .i64 (x.1 : Nat), .int .i64 (0 : Int), .string s, .int .i64 (s.size : Nat), .bool false, undef, undef, .string s, .int .i64 (0 : Int), .int .i64 0, .string (ByteArray.empty), .func (.func 50) #[] #[.pointer (some ⟨w.heap.size + 1 + 1, 0, none⟩)], .int .i64 (x.1 : Nat), .int .i32 (rn (ByteArray.empty) x.1 : Nat), undef, undef, undef, undef], defers := [] }) ?assign ?body ?done ?stop
  case assign =>
    intro l x W K hK
    gi_wp2
    exact hK
  case body =>
    rintro l pre x W ⟨⟨⟨hS, hR⟩, hB⟩, hok⟩ hlt
    have hx2 := x.2
    simp at hx2
  case done =>
    rintro D ys W hD hys ⟨⟨⟨hS, hR⟩, hB⟩, hok⟩ hK
    have hcR := hR.cell
    have hfR := hR.frozen
    have Hf := hide (unhide hnot ys hys hok)
    gi_wp2
    have hK' := (KeepsOthers.setCell W ⟨w.heap.size + 1, 0, none⟩ (.int .i64 0)).same D _ hK rfl
    refine ⟨by simp, .inl ⟨_, _, rfl, run_takeDeferred hK', ?_⟩⟩
    have hc5 := cell_kept (World.cell?_setCell_same' W ⟨w.heap.size + 1, 0, none⟩ (.int .i64 0) (by rw [hcR]; rfl)) (grownBy_putObj' _ D (.deferred none)) (fun r e => by cases e; exact ⟨_, hK', rfl⟩)
    refine ⟨.int .i64 0, ?_, by rw [unhide Hf]; rfl, (hB.setCell (p := ⟨w.heap.size + 1, 0, none⟩) (by simp) _).trans (belowK_b (w := w) (Nat.le_refl _) _ D _ _ (by simp at hD; omega) hK' rfl rfl)⟩
    simp [results, Try.f25, go_sem, hc5]
  case stop =>
    rintro D c pre W hD ⟨rest, hrest⟩ ⟨⟨rfl, q, x, rfl, hq, hx, hR⟩, hB⟩ hK
    have hcR := hR.cell
    have Hf := hide (unhide hfound q x rest hrest hx hq)
    gi_wp2
    refine ⟨by simp, .inl ⟨_, _, rfl, run_takeDeferred hK, ?_⟩⟩
    have hc5 := cell_kept hcR (grownBy_putObj' _ D (.deferred none)) (fun r e => by cases e; exact ⟨_, hK, rfl⟩)
    refine ⟨.int .i64 (x.1 : Nat), ?_, by rw [unhide Hf], hB.trans (belowK_b (w := w) (Nat.le_refl _) W D _ _ (by simp at hD; omega) hK rfl rfl)⟩
    simp [results, Try.f25, go_sem, hc5]

/-- clump.Prev, at every text and every number. -/
theorem prev_in (s : ByteArray) (a : Int) (hs : s.size ≤ 140737488355328) (w : World) :
    Calls Try.prog 25 #[.string s, .int .i64 a] w fun e W' => e = .returned (.int .i64 (prv (brL s) a : Nat)) ∧ Below w.heap.size w W' := by
  by_cases h : (s.size : Int) < a
  · exact prev_far s a hs h w
  · by_cases h0 : a < 0
    · exact prev_low s a hs h0 w
    · by_cases h1 : a = 0
      · subst h1; exact prev_zero s hs w
      obtain ⟨k, rfl⟩ := Int.eq_ofNat_of_zero_le (show 0 ≤ a by omega)
      exact prev_near s k hs (by omega) (by omega) w

end Go.Proofs.Ytcagfapdhopmjaa
