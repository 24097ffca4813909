/-
  The document's own Net: Deliver, Drop.
-/
import Derived.Test.YteomalmflebkhaaZRfG
set_option linter.unusedSimpArgs false
set_option linter.unusedVariables false
namespace Go.Proofs.Yteomalmflebkhaa
open Go.RowKit Go.Lib

variable {P N : Nat → Prop} {w W W' X : World} {b : Nat} {s : Stn}
theorem rDeliver_in (h : HL P w b s) (k : Int) : Calls Try.prog 28 #[.pointer (some ⟨b, 0, none⟩), .int .i64 k] w (TkH P w b s k) := by
  cases hp : plc s.ls k with
  | none => exact rDeliver_none h k hp
  | some i => exact rDeliver_some h k hp
set_option maxRecDepth 100000 in
set_option maxHeartbeats 4000000 in
theorem rDrop_in (h : HL P w b s) (k : Int) : Calls Try.prog 29 #[.pointer (some ⟨b, 0, none⟩), .int .i64 k] w (TkH P w b s k) := by
  obtain ⟨X0, hX0⟩ : ∃ X0, w.alloc (.cells #[.int .i64 0, .int .i64 0, .int .i64 0, .slice none 0 0, .int .i64 0, .bool false] 44) = X0 := ⟨_, rfl⟩
  have bx : Bx X0 w.heap.size 44 #[.int .i64 0, .int .i64 0, .int .i64 0, .slice none 0 0, .int .i64 0, .bool false] := by rw [← hX0]; exact Bx.new _ _ _
  have bel : Below w.heap.size w X0 := by rw [← hX0]; exact ballc (Below.refl _ _) _
  have hz0 : X0.heap.size = w.heap.size + 1 := by rw [← hX0]; simp
  have HT : Hid (Calls Try.prog 28 #[.pointer (some ⟨b, 0, none⟩), .int .i64 k] X0 fun e W => ∃ a q, e = .returned (.tuple #[cpV (tkC s k) (.slice a (tkC s k).dat.length q), .int .i64 (tkE s k)]) ∧ Bx W w.heap.size 44 #[.int .i64 0, .int .i64 0, .int .i64 0, .slice none 0 0, .int .i64 0, .bool false] ∧ ∀ Y, Kp (fun i => i = w.heap.size) W Y → TkH P w b s k (.returned (.tuple #[cpV (tkC s k) (.slice a (tkC s k).dat.length q), .int .i64 (tkE s k)])) Y) := by
    refine (rDeliver_in (h.lt.below bel) k).mono ?_
    rintro e W ⟨a, q, rfl, ho, hn, kk⟩
    refine ⟨a, q, rfl, bx.kp kk (fun e => by have := e.2; omega), fun Y kY => ⟨a, q, rfl, (ho.kp kY (fun i hi e => by have := ho.lt i hi; omega)).wk (by omega), (hn.kp kY (fun i e hi => by rcases hi with hi | hi <;> omega)).mono (fun i hi => by
      rcases hi with e | e
      · exact .inl e.1
      · exact .inr (by omega)), ((Kp.of_below bel).trans kk (fun i hi => .inl hi.1)).trans kY (fun i hi => .inr (by omega))⟩⟩
  clear bx bel hz0 h
  generalize tkC s k = c at *
  generalize tkE s k = er at *
  unfold cpV at HT
  go_enter Try.func29, Try.ntmps29
  go_wp2_with fail
  refine (unhide HT).mono ?_
  rintro e W2 ⟨a2, q2, rfl, b2, fin⟩
  replace fin := hide fin
  obtain ⟨Y, hY⟩ : ∃ Y, (((((W2.setCell ⟨w.heap.size, 0, none⟩ (.int .i64 c.num)).setCell ⟨w.heap.size, 1, none⟩ (.int .i64 c.frm)).setCell ⟨w.heap.size, 2, none⟩ (.int .i64 c.to)).setCell ⟨w.heap.size, 3, none⟩ (.slice a2 c.dat.length q2)).setCell ⟨w.heap.size, 4, none⟩ (.int .i64 c.sent)).setCell ⟨w.heap.size, 5, none⟩ (.bool c.bad) = Y := ⟨_, rfl⟩
  obtain ⟨bY, kY⟩ := set6 b2 _ _ _ _ _ _ hY
  have FN := hide (unhide fin Y kY)
  have HbY := hide bY
  have z0 := b2.cell 0 _ rfl
  have f0 := b2.frozen 0
  have z1 := b2.cell 1 _ rfl
  have f1 := b2.frozen 1
  have z2 := b2.cell 2 _ rfl
  have f2 := b2.frozen 2
  have z3 := b2.cell 3 _ rfl
  have f3 := b2.frozen 3
  have z4 := b2.cell 4 _ rfl
  have f4 := b2.frozen 4
  have z5 := b2.cell 5 _ rfl
  have f5 := b2.frozen 5
  clear bY kY b2 fin HT
  go_wp2
  refine bodyPost_ret (results_ct rfl _ _ w.heap.size _ _ _ _ rfl (unhide HbY) Try.underlying44 rfl sizeC) rfl ?_
  exact unhide FN

end Go.Proofs.Yteomalmflebkhaa
