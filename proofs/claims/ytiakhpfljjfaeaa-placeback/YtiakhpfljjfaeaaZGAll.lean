/-
  glyph.All goes through the places of a text's pieces.
-/
import Derived.Test.YtiakhpfljjfaeaaZSql
set_option linter.unusedSimpArgs false
set_option linter.unusedVariables false
namespace Go.Proofs.Ytiakhpfljjfaeaa
open Go.RowKit Go.Lib Go.Shelf

attribute [local go_sem] Oper.semAt_some

set_option maxRecDepth 100000 in
set_option maxHeartbeats 2000000 in
theorem all_L (Bs : Nat) (s : ByteArray) (w0 : World) (hB : Boxed w0 Bs 9 (.string s)) :
    SeqL 1 38 #[.pointer (some ⟨Bs, 0, none⟩)] (fun i : Nat => #[Value.int .i64 (i : Nat), Value.int .i32 (rn s i : Nat)]) (allL s) Bs w0 := by
  intro l J Jx W hW hJ hJx hY h0 n
  have hBs := (boxed_below hB hW).cell
  show CallsIn Fence.wide n Try.prog 38 #[.func (.yield l) #[] #[], .pointer (some ⟨Bs, 0, none⟩)] W _
  refine callsIn_of_wp Try.func38 rfl trivial ?_ rfl
  simp only [Try.ntmps38, List.size_toArray, List.length_cons, List.length_nil, Nat.reduceAdd, Nat.reduceSub, Array.replicate_succ, Array.replicate_zero, List.push_toArray, List.append_toArray, List.nil_append, List.cons_append]
  gi_wp2
  gi_loopw [] (fun wr => ∃ (pos f : Nat) (pre : List Nat), wr.heap[W.heap.size]? = some (.stringIter s pos) ∧ Hid (pre ++ posL s f pos = allL s) ∧ s.size ≤ pos + f ∧ J pre wr)
    (fun wr => s.size - wr.iterPos W.heap.size)
  case atStart =>
    exact ⟨0, s.size, [], World.iter_heap W s 0, hide rfl, by omega, hJ.alloc h0 _⟩
  case round =>
    obtain ⟨pos, f, pre, hit, hacc, hfu, hJs⟩ := hrel
    by_cases hp : pos < s.size
    · have hnx : ∀ ty, (Instr.next (.pointer (some ⟨W.heap.size, 0, none⟩)) true ty).run Try.prog wr = .ok (.tuple #[.bool true, .int .i64 (pos : Nat), .int .i32 (rn s pos : Nat)]) (wr.iterAt W.heap.size s (pos + wd s pos)) := fun ty => Lib.run_next_any_at wr W.heap.size s pos ty hit hp
      have hwd := wd_pos s pos hp
      have hit2 := Lib.iterAt_heap wr W.heap.size s pos (pos + wd s pos) hit
      obtain ⟨g, rfl⟩ : ∃ g, f = g + 1 := ⟨f - 1, by omega⟩
      have hacc2 : Hid (pre ++ pos :: posL s g (pos + wd s pos) = allL s) := by rw [← posL_step s g pos hp]; exact hacc
      clear hacc
      have hJ2 : J pre (wr.iterAt W.heap.size s (pos + wd s pos)) := hJ _ _ _ _ hJs (iterAt_grown wr _ s _) (fun r e => by cases e; constructor <;> omega)
      obtain ⟨fn, tmps, assign, body, hy, hR⟩ := hY pre pos _ _ (unhide hacc2) (by have := (Array.getElem?_eq_some_iff.1 hit2).1; omega) hJ2 (n - 1)
      gi_wp2
      refine ⟨fun h => (by cases h), hR.mono ?_⟩
      rintro e W3 ⟨b, rfl, hb3, hk3⟩
      cases b with
      | true =>
        have hit3 := (hk3.over _ (Nat.le_refl _) (by omega) (Array.getElem?_eq_some_iff.1 hit2).1).trans hit2
        rw [if_pos rfl] at hb3
        gi_wp2
        go_roundw
        case rel => exact ⟨pos + wd s pos, g, pre ++ [pos], hit3, hide (by rw [← unhide hacc2]; simp), by omega, hb3⟩
        case measure =>
          simp only [World.iterPos, hit3, hit]
          omega
      | false =>
        rw [if_neg (by decide)] at hb3
        gi_wp2
        refine bodyPost_ret (results_none rfl _ _ _) rfl ?_
        exact ⟨⟨_, rfl⟩, .inr ⟨_, posL s g (pos + wd s pos), by rw [← unhide hacc2]; simp, hb3⟩⟩
    · have hnx : ∀ ty, (Instr.next (.pointer (some ⟨W.heap.size, 0, none⟩)) true ty).run Try.prog wr = .ok (.tuple #[.bool false]) wr := fun ty => Lib.run_next_end_at wr W.heap.size s pos ty hit hp
      have hpre : pre = allL s := by rw [← unhide hacc, posL_end s f pos hp]; simp
      subst hpre
      gi_wp2
      go_end0
      exact ⟨⟨_, rfl⟩, .inl ⟨hJs, by have := (Array.getElem?_eq_some_iff.1 hit).1; omega⟩⟩

/-- a function value, called with arguments -/
def Yv (yv : Value) (args : Array Value) (W : World) (R : Bool → World → Prop) : Prop :=
  (∃ l, yv = .func (.yield l) #[] #[] ∧ YieldL l args W R) ∨
  (∃ fc caps, yv = .func (.func fc) #[] caps ∧ (∀ args w, (callFunc fc args).run Try.prog w = .ok (.enter fc args) w) ∧ Calls Try.prog fc (args ++ caps) W fun e W' => ∃ b, e = .returned (.bool b) ∧ R b W')

theorem stepIn_yv {F : Fence} (hF : F = Fence.wide ∨ ∃ l, F = Fence.wide.inRound l) {n : Nat} {o : Oper} {ρ : Operand → Value} {w : World} {R : Value → World → Prop} {R' : Bool → World → Prop} {yv : Value} {t : Nat} {xs : Array Operand} {ts : Array TypeId} {args : Array Value}
    (h : Yv yv args w R') (hop : o.op = .call { callee := .value (.tmp t), args := xs, argTypes := ts }) (ht : ρ (.tmp t) = yv) (ha : xs.map ρ = args) (hR : ∀ b w', R' b w' → R (.bool b) w') : StepIn F n Try.prog o ρ w R := by
  refine ⟨fun c e => (by rw [hop] at e; cases e), ?_⟩
  rcases h with ⟨l, rfl, hy⟩ | ⟨fc, caps, rfl, he, hc⟩
  · refine .inr (.inr ?_)
    obtain ⟨fn, tmps, assign, body, hy1, hy2⟩ := hy (n - 1)
    refine ⟨l, fn, tmps, assign, body, w, ?_, ?_⟩
    · unfold execOp
      rw [hop]
      simp [go_sem, resolve, invoke, ht, ha, hy1]
    · have hm := RoundIn.mono hy2 (R' := fun e w'' => ∃ v, e = .returned v ∧ R v w'') (fun e w'' he => by
        obtain ⟨b, rfl, hb⟩ := he
        exact ⟨_, rfl, hR b w'' hb⟩)
      rcases hF with rfl | ⟨l', rfl⟩
      · exact hm
      · exact hm
  · refine .inr (.inl ?_)
    refine ⟨fc, args ++ caps, w, ?_, ?_⟩
    · unfold execOp
      rw [hop]
      simp [go_sem, resolve, invoke, ht, ha, he]
    · have hm := Calls.mono hc (R' := fun e w'' => ∃ v, e = .returned v ∧ R v w'') (fun e w'' he => by
        obtain ⟨b, rfl, hb⟩ := he
        exact ⟨_, rfl, hR b w'' hb⟩)
      rcases hF with rfl | ⟨l', rfl⟩
      · exact callsIn_wide.2 hm
      · exact CallsIn.inRound l' (callsIn_wide.2 hm)

end Go.Proofs.Ytiakhpfljjfaeaa
