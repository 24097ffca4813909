/-
  The places of a text's pieces; what glyph.All goes through when a range takes it up; glyph.Count.
-/
import Derived.Test.YtiakhpfljjfaeaaZLast
import Derived.RangeFuncBox
import Derived.RangeFuncNested
import Derived.RangeFuncBound
import Derived.RangeFuncCalls
import Derived.RangeFuncLeaves
import Derived.Shelf.Abstract
import Derived.Shelf.RegionOpen
import Derived.OwnWalkIn
import Derived.TacticsInMore
import Derived.LoopNIn
import Derived.LoopIn
import Derived.Lib.OthersKept
set_option linter.unusedSimpArgs false
set_option linter.unusedVariables false
namespace Go.Proofs.Ytiakhpfljjfaeaa
open Go.RowKit Go.Lib Go.Shelf

theorem iterAt_grown (w : World) (k : Nat) (s : ByteArray) (p : Nat) : w.grownBy (w.iterAt k s p) (some k) :=
  ⟨rfl, rfl, rfl, by simp [World.iterAt], fun j _ hj => iterAt_other w k j s p (fun e => hj (by rw [e]))⟩

attribute [local go_sem] Oper.semAt_some

set_option maxRecDepth 100000 in
set_option maxHeartbeats 2000000 in
/-- the closure that glyph.All hands back, under a range -/
theorem all1_in (F : Fence) (n : Nat) (h8 : F.fn 38) (hro : F.round = none) (hn : 1 ≤ n) (l Bs : Nat) (s : ByteArray) (J Jx : List (Pl s) → World → Prop)
    (W : World) (hJ : AbidesFrom W.heap.size J)
    (hY : ∀ pre x W1, J pre W1 → pre.length < (allL s).length → YieldAt F (n - 1) Try.prog l #[.int .i64 (x.1 : Nat), .int .i32 (rn s x.1 : Nat)] W1 fun e W' =>
      (e = .returned (.bool true) ∧ J (pre ++ [x]) W' ∧ KeepsWalks W1 W') ∨ (e = .returned (.bool false) ∧ Jx (pre ++ [x]) W'))
    (hBs : W.cell? ⟨Bs, 0, none⟩ = some (.string s)) (h0 : J [] W) :
    CallsIn F n Try.prog 38 #[.func (.yield l) #[] #[], .pointer (some ⟨Bs, 0, none⟩)] W fun e W' => (∃ v, e = .returned v) ∧
      ((∃ ys : List (Pl s), ys.map (·.1) = allL s ∧ J ys W') ∨ (∃ pre : List (Pl s), (∃ rest, pre.map (·.1) ++ rest = allL s) ∧ Jx pre W')) := by
  refine callsIn_of_wp Try.func38 rfl h8 ?_ hro
  simp only [Try.ntmps38, List.size_toArray, List.length_cons, List.length_nil, Nat.reduceAdd, Nat.reduceSub, Array.replicate_succ, Array.replicate_zero, List.push_toArray, List.append_toArray, List.nil_append, List.cons_append]
  gi_wp2
  gi_loopw [] (fun wr => ∃ (pos f : Nat) (pre : List (Pl s)), wr.heap[W.heap.size]? = some (.stringIter s pos) ∧ Hid (pre.map (·.1) ++ posL s f pos = allL s) ∧ s.size ≤ pos + f ∧ J pre wr)
    (fun wr => s.size - wr.iterPos W.heap.size)
  case atStart =>
    exact ⟨0, s.size, [], World.iter_heap W s 0, hide rfl, by omega, hJ _ _ _ none h0 (World.grownBy_alloc W _ none) (fun r e => by cases e)⟩
  case round =>
    obtain ⟨pos, f, pre, hit, hacc, hfu, hJs⟩ := hrel
    by_cases hp : pos < s.size
    · have hnx : ∀ ty, (Instr.next (.pointer (some ⟨W.heap.size, 0, none⟩)) true ty).run Try.prog wr = .ok (.tuple #[.bool true, .int .i64 (pos : Nat), .int .i32 (rn s pos : Nat)]) (wr.iterAt W.heap.size s (pos + wd s pos)) := fun ty => Lib.run_next_any_at wr W.heap.size s pos ty hit hp
      have hwd := wd_pos s pos hp
      have hit2 := Lib.iterAt_heap wr W.heap.size s pos (pos + wd s pos) hit
      obtain ⟨g, rfl⟩ : ∃ g, f = g + 1 := ⟨f - 1, by omega⟩
      have hacc2 : Hid (pre.map (·.1) ++ pos :: posL s g (pos + wd s pos) = allL s) := by rw [← posL_step s g pos hp]; exact hacc
      clear hacc
      have hlen : pre.length < (allL s).length := by rw [← unhide hacc2]; simp
      have hJ2 : J pre (wr.iterAt W.heap.size s (pos + wd s pos)) := hJ _ _ _ _ hJs (iterAt_grown wr _ s _) (fun r e => by cases e; exact ⟨Nat.le_refl _, _, hit, rfl⟩)
      obtain ⟨fn, tmps, assign, body, hy, hR⟩ := hY pre ⟨pos, hp⟩ _ hJ2 hlen
      dsimp only at hy
      gi_wp2
      refine hR.mono ?_
      rintro e W3 (⟨rfl, hJ3, hk3⟩ | ⟨rfl, hJx3⟩)
      · have hit3 := hk3.same _ _ hit2 rfl
        gi_wp2
        go_roundw
        case rel => exact ⟨pos + wd s pos, g, pre ++ [⟨pos, hp⟩], hit3, hide (by rw [← unhide hacc2]; simp), by omega, hJ3⟩
        case measure =>
          simp only [World.iterPos, hit3, hit]
          omega
      · gi_wp2
        refine bodyPost_ret (results_none rfl _ _ _) rfl ?_
        exact ⟨⟨_, rfl⟩, .inr ⟨_, ⟨posL s g (pos + wd s pos), by rw [← unhide hacc2]; simp⟩, hJx3⟩⟩
    · have hnx : ∀ ty, (Instr.next (.pointer (some ⟨W.heap.size, 0, none⟩)) true ty).run Try.prog wr = .ok (.tuple #[.bool false]) wr := fun ty => Lib.run_next_end_at wr W.heap.size s pos ty hit hp
      gi_wp2
      go_end0
      exact ⟨⟨_, rfl⟩, .inl ⟨pre, by rw [← unhide hacc, posL_end s f pos hp]; simp, hJs⟩⟩

set_option maxHeartbeats 1000000 in
/-- glyph.All: the text is boxed; the function value captures the box -/
theorem all_in (F : Fence) (n : Nat) (h6 : F.fn 20) (hro : F.round = none) (s : ByteArray) (w : World) :
    CallsIn F n Try.prog 20 #[.string s] w fun e w' => e = .returned (.func (.func 38) #[] #[.pointer (some ⟨w.heap.size, 0, none⟩)]) ∧ w' = w.alloc (.cells #[.string s] 9) := by
  refine callsIn_of_wp Try.func20 rfl h6 ?_ hro
  simp only [Try.ntmps20, List.size_toArray, List.length_cons, List.length_nil, Nat.reduceAdd, Nat.reduceSub, Array.replicate_succ, Array.replicate_zero, List.push_toArray, List.append_toArray, List.nil_append, List.cons_append]
  gi_wp2
  go_ret
  exact ⟨rfl, rfl⟩

theorem all_stops (F : Fence) (n : Nat) (h8 : F.fn 38) (hro : F.round = none) (hn : 1 ≤ n) (Bs : Nat) (s : ByteArray) (w : World) (hBs : Bs < w.heap.size)
    (hc : w.cell? ⟨Bs, 0, none⟩ = some (.string s)) :
    SeqStopsK F n Try.prog 38 #[.pointer (some ⟨Bs, 0, none⟩)] (fun x : Pl s => #[Value.int .i64 (x.1 : Nat), Value.int .i32 (rn s x.1 : Nat)]) KeepsWalks (fun ys => ys.map (·.1) = allL s)
      (fun pre => ∃ rest, pre.map (·.1) ++ rest = allL s) (allL s).length w := fun l J Jx W hW hJ _ hY h0 =>
  all1_in F n h8 hro hn l Bs s J Jx W hJ hY ((hW.cell (p := ⟨Bs, 0, none⟩) hBs).trans hc) h0

end Go.Proofs.Ytiakhpfljjfaeaa
