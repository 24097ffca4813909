/-
  What glyph.Back goes through when a range takes it up.
-/
import Derived.Test.YtiakhpfljjfaeaaZIter
set_option linter.unusedSimpArgs false
set_option linter.unusedVariables false
namespace Go.Proofs.Ytiakhpfljjfaeaa
open Go.RowKit Go.Lib Go.Shelf

/-- a block lies as it lay -/
def KeepsB (B : Nat) (W W' : World) : Prop := ∀ o, W.heap[B]? = some o → W'.heap[B]? = some o
theorem KeepsB.refl (B : Nat) (W : World) : KeepsB B W W := fun _ h => h
theorem KeepsB.trans {B : Nat} {X Y Z : World} (h : KeepsB B X Y) (k : KeepsB B Y Z) : KeepsB B X Z := fun o ho => k o (h o ho)
theorem keepsB_b {B : Nat} {w : World} (hB : B < w.heap.size) (W : World) (l : Nat) (o o' : Obj) (hl : w.heap.size ≤ l) (h : W.heap[l]? = some o) (_ : o.isCells = false) (_ : o.isWalk = false) : KeepsB B W (W.putObj l o') :=
  fun x hx => (World.putObj_heap_other (by omega)).trans hx
theorem KeepsB.of_below {B : Nat} {W W' : World} (h : Below W.heap.size W W') : KeepsB B W W' := fun o ho => (h.block B (Array.getElem?_eq_some_iff.1 ho).1).trans ho
theorem KeepsB.setCell {B b : Nat} {W : World} (hne : B ≠ b) (v : Value) : KeepsB B W (W.setCell ⟨b, 0, none⟩ v) := fun o ho => ((grownBy_setCell' W b v).block B (Array.getElem?_eq_some_iff.1 ho).1 (fun e => hne (by cases e; rfl))).trans ho

attribute [local go_sem] Oper.semAt_some

set_option maxRecDepth 100000 in
set_option maxHeartbeats 2000000 in
/-- the closure that glyph.Back hands back, under a range -/
theorem back1_in (n : Nat) (hn : 1 ≤ n) (l Bs : Nat) (s : ByteArray) (hs : s.size ≤ maxLen) (J Jx : List (Pl s) → World → Prop) (W : World)
    (hY : ∀ pre x W1, J pre W1 → pre.length < (allL s).length → YieldAt Fence.wide (n - 1) Try.prog l #[.int .i64 (x.1 : Nat), .int .i32 (rn s x.1 : Nat)] W1 fun e W' =>
      (e = .returned (.bool true) ∧ J (pre ++ [x]) W' ∧ KeepsB Bs W1 W') ∨ (e = .returned (.bool false) ∧ Jx (pre ++ [x]) W'))
    (hBs : Boxed W Bs 9 (.string s)) (h0 : J [] W) :
    CallsIn Fence.wide n Try.prog 71 #[.func (.yield l) #[] #[], .pointer (some ⟨Bs, 0, none⟩)] W fun e W' => (∃ v, e = .returned v) ∧
      ((∃ ys : List (Pl s), ys.map (·.1) = (allL s).reverse ∧ J ys W') ∨ (∃ pre : List (Pl s), (∃ rest, pre.map (·.1) ++ rest = (allL s).reverse) ∧ Jx pre W')) := by
  have hs0 := hs
  unfold maxLen at hs
  have hBc := hBs.cell
  refine callsIn_of_wp Try.func71 rfl trivial ?_ rfl
  simp only [Try.ntmps71, List.size_toArray, List.length_cons, List.length_nil, Nat.reduceAdd, Nat.reduceSub, Array.replicate_succ, Array.replicate_zero, List.push_toArray, List.append_toArray, List.nil_append, List.cons_append]
  gi_wp2
  gi_loopw [3] (fun ev wr => ∃ (pos : Nat) (l : List Nat) (pre : List (Pl s)), ev = .int .i64 pos ∧ pos ≤ s.size ∧ Hid (Chain s l pos) ∧ Hid (pre.map (·.1) ++ l.reverse = (allL s).reverse) ∧ J pre wr ∧ Boxed wr Bs 9 (.string s))
    (fun ev _ => (RowKit.intOf ev).toNat)
  case atStart => exact ⟨s.size, allL s, [], rfl, Nat.le_refl _, hide (chain_full s), hide rfl, h0, hBs⟩
  case round =>
    obtain ⟨pos, l, pre, rfl, hps, hch, hacc, hJs, hbs⟩ := hrel
    have hcs := hbs.cell
    rcases List.eq_nil_or_concat l with rfl | ⟨l', st, rfl⟩
    · have hp0 : pos = 0 := by have := (unhide hch).2.2.2; simpa using this
      subst hp0
      have hpre : pre.map (·.1) = (allL s).reverse := by have := unhide hacc; simpa using this
      have Hpre := hide hpre
      clear hpre hacc
      gi_wp2
      go_end0
      exact ⟨⟨_, rfl⟩, .inl ⟨pre, unhide Hpre, hJs⟩⟩
    · rw [List.concat_eq_append] at hch hacc
      obtain ⟨h1, h2, h3⟩ := chain_last (unhide hch)
      have hw := wd_pos s st h1
      subst h3
      have X1 := hide (lR_sync h2 h1)
      have X2 := hide (lN_sync h2 h1)
      have X3 := hide (lK_sync h2 h1)
      have hacc2 : Hid (pre.map (·.1) ++ st :: l'.reverse = (allL s).reverse) := hide (by have := unhide hacc; simpa using this)
      have hlen : pre.length < (allL s).length := by
        have := congrArg List.length (unhide hacc2)
        simp at this; omega
      clear hacc
      obtain ⟨fn, tmps, assign, body, hy, hR⟩ := hY pre ⟨st, h1⟩ wr hJs hlen
      dsimp only at hy
      have i1 : (0 : Int) < (st : Int) + (wd s st : Int) := by omega
      have e9 : (((st + wd s st : Nat) : Int) - (wd s st : Int)) = (st : Int) := by omega
      gi_wp2_with (refine ⟨trivial, ?_⟩; gi_at_call 72; refine (callsIn_wide.2 (last_any _ _ _ hs0)).mono ?_; rintro e w' ⟨rfl, rfl⟩; rw [unhide X1, unhide X2, unhide X3])
      refine hR.mono ?_
      rintro e W3 (⟨rfl, hJ3, hk3⟩ | ⟨rfl, hJx3⟩)
      · gi_wp2
        go_roundw
        case rel => exact ⟨st, l', pre ++ [⟨st, h1⟩], by go_num, by omega, hide (chain_prefix (unhide hch)), hide (by rw [← unhide hacc2]; simp), hJ3, hk3 _ hbs⟩
        case measure => simp [RowKit.intOf]; omega
      · gi_wp2
        refine bodyPost_ret (results_none rfl _ _ _) rfl ?_
        exact ⟨⟨_, rfl⟩, .inr ⟨_, ⟨l'.reverse, by rw [← unhide hacc2]; simp⟩, hJx3⟩⟩

set_option maxHeartbeats 1000000 in
/-- glyph.Back: the text is boxed; the function value captures the box -/
theorem back_in (F : Fence) (n : Nat) (h6 : F.fn 64) (hro : F.round = none) (s : ByteArray) (w : World) :
    CallsIn F n Try.prog 64 #[.string s] w fun e w' => e = .returned (.func (.func 71) #[] #[.pointer (some ⟨w.heap.size, 0, none⟩)]) ∧ w' = w.alloc (.cells #[.string s] 9) := by
  refine callsIn_of_wp Try.func64 rfl h6 ?_ hro
  simp only [Try.ntmps64, List.size_toArray, List.length_cons, List.length_nil, Nat.reduceAdd, Nat.reduceSub, Array.replicate_succ, Array.replicate_zero, List.push_toArray, List.append_toArray, List.nil_append, List.cons_append]
  gi_wp2
  go_ret
  exact ⟨rfl, rfl⟩

theorem boxed_below {W W' : World} {B t : Nat} {v : Value} (h : Boxed W B t v) (hb : Below W.heap.size W W') : Boxed W' B t v := (hb.block B h.lt).trans h

theorem back_stops (n : Nat) (hn : 1 ≤ n) (Bs : Nat) (s : ByteArray) (hs : s.size ≤ maxLen) (w : World) (hB : Boxed w Bs 9 (.string s)) :
    SeqStopsK Fence.wide n Try.prog 71 #[.pointer (some ⟨Bs, 0, none⟩)] (fun x : Pl s => #[Value.int .i64 (x.1 : Nat), Value.int .i32 (rn s x.1 : Nat)]) (KeepsB Bs) (fun ys => ys.map (·.1) = (allL s).reverse)
      (fun pre => ∃ rest, pre.map (·.1) ++ rest = (allL s).reverse) (allL s).length w := fun l J Jx W hW _ _ hY h0 =>
  back1_in n hn l Bs s hs J Jx W hY (boxed_below hB hW) h0

end Go.Proofs.Ytiakhpfljjfaeaa
