/-
  What clump.evenFlags answers.
-/
import Derived.Test.YtiakhpfljjfaeaaZEwp
set_option linter.unusedSimpArgs false
set_option linter.unusedVariables false
namespace Go.Proofs.Ytiakhpfljjfaeaa
open Go.RowKit Go.Lib Go.Shelf

attribute [local go_sem] Oper.semAt_some

theorem even_succ (n : Nat) : (!((n % 2 == 0) : Bool)) = ((n + 1) % 2 == 0) := by
  rcases Nat.mod_two_eq_zero_or_one n with e | e <;> simp [e] <;> omega

set_option maxRecDepth 100000 in
set_option maxHeartbeats 2000000 in
theorem evenFlags_in (s : ByteArray) (hs : s.size ≤ 140737488355328) (w : World) :
    Calls Try.prog 58 #[.string s] w fun e W' => e = .returned (.bool (evR (rc s))) ∧ Below w.heap.size w W' := by
  refine (callsIn_wide (n := 6)).1 ?_
  have hs0 : s.size ≤ maxLen := by unfold maxLen; omega
  refine callsIn_of_wp_marks Try.func58 rfl trivial ?_ rfl
  simp only [Try.ntmps58, List.size_toArray, List.length_cons, List.length_nil, Nat.reduceAdd, Nat.reduceSub, Array.replicate_succ, Array.replicate_zero, List.push_toArray, List.append_toArray, List.nil_append, List.cons_append]
  gi_wp2_with (refine ⟨trivial, ?_⟩; gi_at_call 64; refine (back_in Fence.wide _ trivial rfl _ _).mono ?_; rintro e w' ⟨rfl, rfl⟩)
  have bR := Boxed.new w 4 (.bool true)
  have bN := Boxed.new (w.alloc (.cells #[.bool true] 4)) 9 (.string s)
  rw [World.size_alloc] at bN
  have hB0 : Below w.heap.size w ((w.alloc (.cells #[.bool true] 4)).alloc (.cells #[.string s] 9)) := ((Below.refl _ w).alloc (Nat.le_refl _) _).alloc (by simp) _
  refine wpIn_rangeFunc_ownG rfl (by decide) (gf := 71) (lb := #[.pointer (some ⟨w.heap.size + 1, 0, none⟩)]) rfl trivial (enters_of Try.func71 (by kernel_rfl) rfl)
    (back_stops 5 (by decide) (w.heap.size + 1) s hs0 _ bN) KeepsB.trans (keepsB_b (by simp)) (Below.refl _ _) (fun _ => rfl)
    (fun pre W => (Boxed W w.heap.size 4 (.bool (pre.length % 2 == 0)) ∧ Below w.heap.size w W) ∧ ∀ x ∈ pre, C s x.1 = 6)
    (fun c pre W => (c = .exit 0 ∧ ∃ (q : List (Pl s)) (x : Pl s), pre = q ++ [x] ∧ (∀ x ∈ q, C s x.1 = 6) ∧ C s x.1 ≠ 6 ∧ Boxed W w.heap.size 4 (.bool (q.length % 2 == 0))) ∧ Below w.heap.size w W)
    (OwnFrom.and (OwnFrom.and (Own.from (boxed_own w.heap.size 4 (fun pre : List (Pl s) => .bool (pre.length % 2 == 0))) _) (ownFrom_below (Nat.le_refl _) (by simp; omega))) (ownFrom_pure _ _))
    (fun c => OwnFrom.and (fun pre X Y row hs hg hr => by
      obtain ⟨hc, q, x, e, h1, h2, hb⟩ := hs
      exact ⟨hc, q, x, e, h1, h2, boxed_own (β := Unit) _ _ (fun _ => .bool (q.length % 2 == 0)) () X Y row hb hg (fun r e => (hr r e).2)⟩) (ownFrom_below (Nat.le_refl _) (by simp; omega)))
    ⟨⟨bR.alloc _, hB0⟩, fun x hx => by cases hx⟩
    (fun x => { tmps := #[.string s, undef, .bool false, .pointer (some ⟨w.heap.size, 0, none⟩), undef, .int .i32 (rn s x.1 : Nat), .string s, .func (.func 71) #[] #[.pointer (some ⟨w.heap.size + 1, 0, none⟩)], .int .i64 (x.1 : Nat), .int .i32 (rn s x.1 : Nat), undef, undef, undef, undef, undef, undef], defers := [] }) ?assign ?body ?done ?stop
  case assign =>
    intro l x W K hK
    gi_wp2
    exact hK
  case body =>
    rintro l pre x W ⟨⟨hR, hB⟩, hok⟩ hlt
    have hrx := rn_lt s x.1 x.2
    have hR2 := hide (fun (w' : World) (hb : Below W.heap.size W w') => boxed_below hR hb)
    have hsz := hB.size
    by_cases h5 : C s x.1 = 6
    · have hb5 : (C s x.1 != 6) = false := by rw [bne_eq_false_iff_eq]; exact h5
      have H5 := hide h5
      clear h5
      gi_wp2_with (refine ⟨trivial, ?_⟩; gi_at_call 36; refine (CallsIn.inRound l (callsIn_wide.2 (class_in _ (by omega) (by omega) _))).mono ?_; rintro e w' ⟨rfl, hb⟩; rw [show cls (rn s x.1 : Nat) = C s x.1 from rfl]; have hR3 := unhide hR2 _ hb; have hc3 := hR3.cell; have hf3 := hR3.frozen)
      refine ⟨(keepsFrom_below hb).trans ((KeepsOthers.setCell _ _ _).from _), (KeepsB.of_below hb).trans (KeepsB.setCell (by omega) _), ⟨?_, (hB.trans (hb.mono hsz)).setCell (p := ⟨w.heap.size, 0, none⟩) (Nat.le_refl _) _⟩, fun y hy => (List.mem_append.1 hy).elim (hok y) (fun e => by simp at e; subst e; exact unhide H5)⟩
      rw [List.length_append, List.length_singleton, ← even_succ]
      exact hR3.set _
    · have hb5 : (C s x.1 != 6) = true := by rw [bne_iff_ne]; exact h5
      have H5 := hide h5
      clear h5
      gi_wp2_with (refine ⟨trivial, ?_⟩; gi_at_call 36; refine (CallsIn.inRound l (callsIn_wide.2 (class_in _ (by omega) (by omega) _))).mono ?_; rintro e w' ⟨rfl, hb⟩; rw [show cls (rn s x.1 : Nat) = C s x.1 from rfl]; have hR3 := unhide hR2 _ hb; have hc3 := hR3.cell; have hf3 := hR3.frozen)
      exact ⟨keepsFrom_below hb, ⟨rfl, pre, x, rfl, hok, unhide H5, hR3⟩, hB.trans (hb.mono hsz)⟩
  case done =>
    rintro D ys W hD hys ⟨⟨hR, hB⟩, hok⟩ hK
    have hcR := hR.cell
    have hj : evR (rc s) = (ys.length % 2 == 0) := by
      unfold rc
      rw [← hys]
      rw [ev_all (fun c hc => by
        rw [List.map_map] at hc
        obtain ⟨y, hy, rfl⟩ := List.mem_map.1 hc
        exact hok y hy)]
      simp
    have Hj := hide hj
    clear hj
    gi_wp2
    refine ⟨by simp, .inl ⟨_, _, rfl, run_takeDeferred hK, ?_⟩⟩
    exact ⟨_, results_tmp rfl _ _ _, by rw [unhide Hj]; rfl, hB.trans (belowK_b (w := w) (Nat.le_refl _) W D _ _ (by simp at hD; omega) hK rfl rfl)⟩
  case stop =>
    rintro D c pre W hD ⟨rest, hrest⟩ ⟨⟨rfl, q, x, rfl, hq, hx, hR⟩, hB⟩ hK
    have hcR := hR.cell
    have hj : evR (rc s) = (q.length % 2 == 0) := by
      unfold rc
      rw [← hrest]
      have := ev_at (q := q.map (fun y => C s y.1)) (rest := rest.map (C s)) (c := C s x.1) (fun c hc => by
        obtain ⟨y, hy, rfl⟩ := List.mem_map.1 hc
        exact hq y hy) hx
      simpa [Function.comp_def] using this
    have Hj := hide hj
    clear hj
    gi_wp2
    refine ⟨by simp, .inl ⟨_, _, rfl, run_takeDeferred hK, ?_⟩⟩
    exact ⟨_, results_tmp rfl _ _ _, by rw [unhide Hj]; rfl, hB.trans (belowK_b (w := w) (Nat.le_refl _) W D _ _ (by simp at hD; omega) hK rfl rfl)⟩

end Go.Proofs.Ytiakhpfljjfaeaa
