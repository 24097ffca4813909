/-
  What clump.All and clump.Count answer.
-/
import Derived.Test.YtiakhpfljjfaeaaZCAll
set_option linter.unusedSimpArgs false
set_option linter.unusedVariables false
namespace Go.Proofs.Ytiakhpfljjfaeaa
open Go.RowKit Go.Lib Go.Shelf

attribute [local go_sem] Oper.semAt_some

/-- clump.All's closure, called with a function value -/
theorem call_any (yf : Fn) (yc : Array Value) (Bs : Nat) (s : ByteArray) (hs : s.size ≤ 140737488355328) (J Jx : List (Nat × Nat) → World → Prop) (W : World) (hJ : AbidesAll W.heap.size (W.heap.size + 8) J) (hJx : AbidesAll W.heap.size (W.heap.size + 8) Jx)
    (hBs : Boxed W Bs 9 (.string s))
    (hY : ∀ pre c rest W1, pre ++ c :: rest = cpL s → W.heap.size + 8 ≤ W1.heap.size → J pre W1 → Yv (.func yf #[] yc) #[.int .i64 (c.1 : Nat), .string (s.extract c.1 c.2)] W1 fun b W' => (if b then J (pre ++ [c]) W' else Jx (pre ++ [c]) W') ∧ KO W.heap.size (W.heap.size + 8) Bs W1 W')
    (h0 : J [] W) (n : Nat) :
    CallsIn Fence.wide n Try.prog 35 #[.func yf #[] yc, .pointer (some ⟨Bs, 0, none⟩)] W fun e W' => e = .returned (.tuple #[]) ∧ ((J (cpL s) W' ∧ W.heap.size + 8 ≤ W'.heap.size) ∨ ∃ pre rest, pre ++ rest = cpL s ∧ Jx pre W') := by
  have h := call1 yf yc Bs s hs (fun pre W1 => J pre W1 ∧ Boxed W1 Bs 9 (.string s)) Jx W (AbidesAll.and hJ (AbidesAll.boxed (.inl hBs.lt) _ _)) hJx hBs (fun pre W1 h => h.2) ?_ ⟨h0, hBs⟩
  · refine callsIn_wide.2 ((callsIn_wide.1 h).mono ?_)
    rintro e W' ⟨rfl, h | h⟩
    · exact ⟨rfl, .inl ⟨h.1.1, h.2⟩⟩
    · exact ⟨rfl, .inr h⟩
  · rintro pre c rest W1 hp hz ⟨hj, hb⟩
    have up : ∀ (b : Bool) W', ((if b then J (pre ++ [c]) W' else Jx (pre ++ [c]) W') ∧ KO W.heap.size (W.heap.size + 8) Bs W1 W') → (if b then J (pre ++ [c]) W' ∧ Boxed W' Bs 9 (.string s) else Jx (pre ++ [c]) W') ∧ KO W.heap.size (W.heap.size + 8) Bs W1 W' := by
      rintro b W' ⟨h1, h2⟩
      refine ⟨?_, h2⟩
      cases b with
      | true => exact ⟨h1, h2.box _ hb⟩
      | false => exact h1
    rcases hY pre c rest W1 hp hz hj with ⟨l, e, hy⟩ | ⟨fc, caps, e, he, hc⟩
    · exact .inl ⟨l, e, fun m => YieldAt.mono (hy m) (fun e W' ⟨b, h1, h2⟩ => ⟨b, h1, up b W' h2⟩)⟩
    · exact .inr ⟨fc, caps, e, he, hc.mono (fun e W' ⟨b, h1, h2⟩ => ⟨b, h1, up b W' h2⟩)⟩

/-- clump.All's closure, called with a closure -/
theorem call_clo (fc : Nat) (caps : Array Value) (Bs : Nat) (s : ByteArray) (hs : s.size ≤ 140737488355328) (J Jx : List (Nat × Nat) → World → Prop) (W : World) (hJ : AbidesAll W.heap.size (W.heap.size + 8) J) (hJx : AbidesAll W.heap.size (W.heap.size + 8) Jx)
    (he : ∀ args w, (callFunc fc args).run Try.prog w = .ok (.enter fc args) w) (hBs : Boxed W Bs 9 (.string s))
    (hY : ∀ pre c rest W1, pre ++ c :: rest = cpL s → W.heap.size + 8 ≤ W1.heap.size → J pre W1 → Calls Try.prog fc (#[.int .i64 (c.1 : Nat), .string (s.extract c.1 c.2)] ++ caps) W1 fun e W' => ∃ b, e = .returned (.bool b) ∧ (if b then J (pre ++ [c]) W' else Jx (pre ++ [c]) W') ∧ KO W.heap.size (W.heap.size + 8) Bs W1 W')
    (h0 : J [] W) :
    Calls Try.prog 35 #[.func (.func fc) #[] caps, .pointer (some ⟨Bs, 0, none⟩)] W fun e W' => e = .returned (.tuple #[]) ∧ (J (cpL s) W' ∨ ∃ pre rest, pre ++ rest = cpL s ∧ Jx pre W') :=
  (callsIn_wide.1 (call_any (.func fc) caps Bs s hs J Jx W hJ hJx hBs (fun pre c rest W1 hp hz hj => .inr ⟨fc, caps, rfl, he, hY pre c rest W1 hp hz hj⟩) h0 6)).mono (by
    rintro e W' ⟨rfl, h | h⟩
    · exact ⟨rfl, .inl h.1⟩
    · exact ⟨rfl, .inr h⟩)

theorem call_L (Bs : Nat) (s : ByteArray) (hs : s.size ≤ 140737488355328) (w0 : World) (hB : Boxed w0 Bs 9 (.string s)) :
    SeqL 8 35 #[.pointer (some ⟨Bs, 0, none⟩)] (fun c : Nat × Nat => #[Value.int .i64 (c.1 : Nat), Value.string (s.extract c.1 c.2)]) (cpL s) Bs w0 := by
  intro l J Jx W hW hJ hJx hY h0 n
  refine (call_any (.yield l) #[] Bs s hs J Jx W hJ hJx (boxed_below hB hW) (fun pre c rest W1 hp hz hj => .inl ⟨l, rfl, hY pre c rest W1 hp hz hj⟩) h0 n).mono ?_
  rintro e W' ⟨rfl, h⟩
  exact ⟨⟨_, rfl⟩, h⟩

set_option maxHeartbeats 1000000 in
/-- clump.All: the text is boxed; the function value captures the box -/
theorem clumpAll_in (s : ByteArray) (w : World) :
    Calls Try.prog 19 #[.string s] w fun e w' => e = .returned (.func (.func 35) #[] #[.pointer (some ⟨w.heap.size, 0, none⟩)]) ∧ w' = w.alloc (.cells #[.string s] 9) := by
  go_enter Try.func19, Try.ntmps19
  go_wp2
  go_ret
  exact ⟨rfl, rfl⟩

end Go.Proofs.Ytiakhpfljjfaeaa
