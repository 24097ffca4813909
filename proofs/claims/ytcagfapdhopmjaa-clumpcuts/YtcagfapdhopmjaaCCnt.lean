/-
  What clump.All and clump.Count answer.
-/
import Derived.Test.YtcagfapdhopmjaaCAll
set_option linter.unusedSimpArgs false
set_option linter.unusedVariables false
namespace Go.Proofs.Ytcagfapdhopmjaa
open Go.RowKit Go.Lib Go.Shelf

attribute [local go_sem] Oper.semAt_some

/-- clump.All's closure, called with a function value -/
theorem call_any (yf : Fn) (yc : Array Value) (Bs : Nat) (s : ByteArray) (hs : s.size ≤ 140737488355328) (J Jx : List (Nat × Nat) → World → Prop) (W : World) (hJ : AbidesAll W.heap.size (W.heap.size + 8) J) (hJx : AbidesAll W.heap.size (W.heap.size + 8) Jx)
    (hBs : Boxed W Bs 9 (.string s))
    (hY : ∀ pre c rest W1, pre ++ c :: rest = cpL s → W.heap.size + 8 ≤ W1.heap.size → J pre W1 → Yv (.func yf #[] yc) #[.int .i64 (c.1 : Nat), .string (s.extract c.1 c.2)] W1 fun b W' => (if b then J (pre ++ [c]) W' else Jx (pre ++ [c]) W') ∧ KO W.heap.size (W.heap.size + 8) Bs W1 W')
    (h0 : J [] W) (n : Nat) :
    CallsIn Fence.wide n Try.prog 36 #[.func yf #[] yc, .pointer (some ⟨Bs, 0, none⟩)] W fun e W' => e = .returned (.tuple #[]) ∧ ((J (cpL s) W' ∧ W.heap.size + 8 ≤ W'.heap.size) ∨ ∃ pre rest, pre ++ rest = cpL s ∧ Jx pre W') := by
  have h := call1 yf yc Bs s hs (fun pre W1 => J pre W1 ∧ Boxed W1 Bs 9 (.string s)) Jx W (AbidesAll.and hJ (AbidesAll.boxed (.inl hBs.lt) _ _)) hJx hBs (fun pre W1 h => h.2) ?_ ⟨h0, hBs⟩
  · refine callsIn_wide.2 ((callsIn_wide.1 h).mono ?_)
    rintro e W' ⟨rfl, h | h⟩
    · exact ⟨rfl, .inl ⟨h.1.1, h.2⟩⟩
    · exact ⟨rfl, .inr h⟩
  · rintro pre c rest W1 hp hz ⟨hj, hb⟩
    have up : ∀ (b : Bool) W', ((if b then J (pre ++ [c]) W' else Jx (pre ++ [c]) W') ∧ KO W.heap.size (W.heap.size + 8) Bs W1 W') → (if b then J (pre ++ [c]) W' ∧ Boxed W' Bs 9 (.string s) else Jx (pre ++ [c]) W') ∧ KO W.heap.size (W.heap.size + 8) Bs W1 W' := by
      rintro b W' ⟨h1, h2⟩
      refine ⟨?_, h2⟩
      cases b with
      | true => exact ⟨h1, h2.box _ hb⟩
      | false => exact h1
    rcases hY pre c rest W1 hp hz hj with ⟨l, e, hy⟩ | ⟨fc, caps, e, he, hc⟩
    · exact .inl ⟨l, e, fun m => YieldAt.mono (hy m) (fun e W' ⟨b, h1, h2⟩ => ⟨b, h1, up b W' h2⟩)⟩
    · exact .inr ⟨fc, caps, e, he, hc.mono (fun e W' ⟨b, h1, h2⟩ => ⟨b, h1, up b W' h2⟩)⟩

/-- clump.All's closure, called with a closure -/
theorem call_clo (fc : Nat) (caps : Array Value) (Bs : Nat) (s : ByteArray) (hs : s.size ≤ 140737488355328) (J Jx : List (Nat × Nat) → World → Prop) (W : World) (hJ : AbidesAll W.heap.size (W.heap.size + 8) J) (hJx : AbidesAll W.heap.size (W.heap.size + 8) Jx)
    (he : ∀ args w, (callFunc fc args).run Try.prog w = .ok (.enter fc args) w) (hBs : Boxed W Bs 9 (.string s))
    (hY : ∀ pre c rest W1, pre ++ c :: rest = cpL s → W.heap.size + 8 ≤ W1.heap.size → J pre W1 → Calls Try.prog fc (#[.int .i64 (c.1 : Nat), .string (s.extract c.1 c.2)] ++ caps) W1 fun e W' => ∃ b, e = .returned (.bool b) ∧ (if b then J (pre ++ [c]) W' else Jx (pre ++ [c]) W') ∧ KO W.heap.size (W.heap.size + 8) Bs W1 W')
    (h0 : J [] W) :
    Calls Try.prog 36 #[.func (.func fc) #[] caps, .pointer (some ⟨Bs, 0, none⟩)] W fun e W' => e = .returned (.tuple #[]) ∧ (J (cpL s) W' ∨ ∃ pre rest, pre ++ rest = cpL s ∧ Jx pre W') :=
  (callsIn_wide.1 (call_any (.func fc) caps Bs s hs J Jx W hJ hJx hBs (fun pre c rest W1 hp hz hj => .inr ⟨fc, caps, rfl, he, hY pre c rest W1 hp hz hj⟩) h0 6)).mono (by
    rintro e W' ⟨rfl, h | h⟩
    · exact ⟨rfl, .inl h.1⟩
    · exact ⟨rfl, .inr h⟩)

theorem call_L (Bs : Nat) (s : ByteArray) (hs : s.size ≤ 140737488355328) (w0 : World) (hB : Boxed w0 Bs 9 (.string s)) :
    SeqL 8 36 #[.pointer (some ⟨Bs, 0, none⟩)] (fun c : Nat × Nat => #[Value.int .i64 (c.1 : Nat), Value.string (s.extract c.1 c.2)]) (cpL s) Bs w0 := by
  intro l J Jx W hW hJ hJx hY h0 n
  refine (call_any (.yield l) #[] Bs s hs J Jx W hJ hJx (boxed_below hB hW) (fun pre c rest W1 hp hz hj => .inl ⟨l, rfl, hY pre c rest W1 hp hz hj⟩) h0 n).mono ?_
  rintro e W' ⟨rfl, h⟩
  exact ⟨⟨_, rfl⟩, h⟩

set_option maxHeartbeats 1000000 in
/-- clump.All: the text is boxed; the function value captures the box -/
theorem clumpAll_in (s : ByteArray) (w : World) :
    Calls Try.prog 19 #[.string s] w fun e w' => e = .returned (.func (.func 36) #[] #[.pointer (some ⟨w.heap.size, 0, none⟩)]) ∧ w' = w.alloc (.cells #[.string s] 9) := by
  go_enter Try.func19, Try.ntmps19
  go_wp2
  go_ret
  exact ⟨rfl, rfl⟩

set_option maxRecDepth 100000 in
set_option maxHeartbeats 2000000 in
theorem clumpCount_in (s : ByteArray) (hs : s.size ≤ 140737488355328) (hc : (cpL s).length ≤ 140737488355328) (w : World) :
    Calls Try.prog 16 #[.string s] w fun e W' => e = .returned (.int .i64 ((cpL s).length : Nat)) ∧ Below w.heap.size w W' := by
  refine (callsIn_wide (n := 6)).1 ?_
  refine callsIn_of_wp_marks Try.func16 rfl trivial ?_ rfl
  simp only [Try.ntmps16, List.size_toArray, List.length_cons, List.length_nil, Nat.reduceAdd, Nat.reduceSub, Array.replicate_succ, Array.replicate_zero, List.push_toArray, List.append_toArray, List.nil_append, List.cons_append]
  gi_wp2_with (refine ⟨trivial, ?_⟩; gi_at_call 19; refine (callsIn_wide.2 (clumpAll_in _ _)).mono ?_; rintro e w' ⟨rfl, rfl⟩)
  have bO := Boxed.new w 3 (.int .i64 0)
  have bN := Boxed.new (w.alloc (.cells #[.int .i64 0] 3)) 9 (.string s)
  rw [World.size_alloc] at bN
  have hB0 : Below w.heap.size w ((w.alloc (.cells #[.int .i64 0] 3)).alloc (.cells #[.string s] 9)) := ((Below.refl _ w).alloc (Nat.le_refl _) _).alloc (by simp) _
  refine range_L (gf := 36) (lb := #[.pointer (some ⟨w.heap.size + 1, 0, none⟩)]) rfl (enters_of Try.func36 (by kernel_rfl) rfl)
    (call_L (w.heap.size + 1) s hs _ bN) (Below.refl _ _) (by simp) (fun _ => rfl)
    (fun pre W => Boxed W w.heap.size 3 (.int .i64 (pre.length : Nat)) ∧ Below w.heap.size w W)
    (fun _ _ _ => False)
    (AbidesAll.and (AbidesAll.boxed (.inl (by simp; omega)) 3 (fun pre : List (Nat × Nat) => .int .i64 (pre.length : Nat))) (AbidesAll.below (Nat.le_refl _) (by simp; omega)))
    (fun _ _ _ _ _ hs _ _ => hs)
    ⟨bO.alloc _, hB0⟩
    (fun x => { tmps := #[.string s, undef, .int .i64 0, .pointer (some ⟨w.heap.size, 0, none⟩), .string s, .func (.func 36) #[] #[.pointer (some ⟨w.heap.size + 1, 0, none⟩)], .int .i64 (x.1 : Nat), .string (s.extract x.1 x.2), undef, undef, undef], defers := [] }) ?assign ?body ?done ?stop
  case assign =>
    intro l x W K hK
    gi_wp2
    simpa using hK
  case body =>
    rintro l pre x rest W hpre _ ⟨hv, hB⟩
    have hlen : pre.length < 140737488355328 := by have := congrArg List.length hpre; simp at this; omega
    have hc := hv.cell
    have hf := hv.frozen
    gi_wp2
    refine ⟨KO.set hv (.inl (by simp; omega)) (by omega) _, ?_, hB.setCell (p := ⟨w.heap.size, 0, none⟩) (Nat.le_refl _) _⟩
    have e1 : Value.int .i64 ((pre ++ [x]).length : Nat) = .int .i64 ((pre.length : Int) + 1) := by simp
    rw [e1]
    exact hv.set _
  case done =>
    rintro D W hD _ ⟨hv, hB⟩ hK
    have hc := hv.cell
    have hsD : w.heap.size ≤ D := by simp at hD; omega
    clear hD
    gi_wp2
    refine ⟨by simp, .inl ⟨_, _, rfl, run_takeDeferred hK, ?_⟩⟩
    exact ⟨_, results_tmp rfl _ _ _, rfl, hB.trans (belowK_b (w := w) (Nat.le_refl _) W D _ _ hsD hK rfl rfl)⟩
  case stop =>
    rintro D c pre rest W _ _ h _
    exact h.elim

end Go.Proofs.Ytcagfapdhopmjaa
