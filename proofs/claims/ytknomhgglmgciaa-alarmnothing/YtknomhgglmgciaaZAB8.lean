/-
  A pair's steps, two pairs.
-/
import Derived.Test.YtknomhgglmgciaaZAB7
import Derived.Test.YtknomhgglmgciaaZAB3
set_option linter.unusedSimpArgs false
set_option linter.unusedVariables false
namespace Go.Proofs.Ytknomhgglmgciaa
open Go.RowKit Go.Lib

variable {w W W' : World} {b n r b' n' r' : Nat} {ls ms ls' ms' : Int} {L L' : List Tm}
theorem PJ.step (h : PJ w W b n r ls ms L) (hn : n ≤ 999990) (s : Stp) (hk : in64 s.key) : Calls Try.prog 13 #[.pointer (some ⟨b, 0, none⟩), .pointer (some ⟨r, 0, none⟩), .agg (stC s)] W fun e W' => e = .returned (.bool true) ∧ PJ w W' b (n + 1) r ls ms (doL ls ms L s) := by
  obtain ⟨Pa, h1, h2, h3⟩ := h
  have hz := h3.size
  refine (does_in h1 (fun i hi => (h2 i hi).2) hn s hk).mono ?_
  rintro e W' ⟨rfl, q, k⟩
  refine ⟨rfl, _, q, fun i hi => ⟨?_, hi.2⟩, k.below h3 (fun i hi => (h2 i hi).1)⟩
  rcases hi.1 with e | e
  · exact (h2 i e).1
  · omega
theorem PJ.stepB {V : World} {bx : Nat} {T : TypeId} {cs : Array Value} (h : PJ w W b n r ls ms L) (hV : Below W.heap.size W V) (hB : Bx V bx T cs) (hbx : W.heap.size ≤ bx) (hn : n ≤ 999990) (s : Stp) (hk : in64 s.key) : Calls Try.prog 13 #[.pointer (some ⟨b, 0, none⟩), .pointer (some ⟨r, 0, none⟩), .agg (stC s)] V fun e W' => e = .returned (.bool true) ∧ PJ w W' b (n + 1) r ls ms (doL ls ms L s) ∧ Bx W' bx T cs := by
  obtain ⟨Pa, h1, h2, h3⟩ := h
  have hz := h3.size
  have hzV := hV.size
  refine (does_in (h1.below hV) (fun i hi => by have := (h2 i hi).2; omega) hn s hk).mono ?_
  rintro e W' ⟨rfl, q, k⟩
  refine ⟨rfl, ⟨_, q, fun i hi => ⟨?_, hi.2⟩, k.below (bnext h3 hV) (fun i hi => (h2 i hi).1)⟩, hB.kp k (fun e => by have := (h2 _ e).2; omega)⟩
  rcases hi.1 with e | e
  · exact (h2 i e).1
  · omega
/-- two pairs in new memory -/
def P4 (w W : World) (b n r : Nat) (ls ms : Int) (L : List Tm) (b' n' r' : Nat) (ls' ms' : Int) (L' : List Tm) : Prop := ∃ Pa Pb, QA Pa W b n r ls ms L L ∧ QA Pb W b' n' r' ls' ms' L' L' ∧ (∀ i, Pa i → w.heap.size ≤ i ∧ i < W.heap.size ∧ ¬ Pb i) ∧ (∀ i, Pb i → w.heap.size ≤ i ∧ i < W.heap.size ∧ ¬ Pa i) ∧ Below w.heap.size w W
theorem P4.swap (h : P4 w W b n r ls ms L b' n' r' ls' ms' L') : P4 w W b' n' r' ls' ms' L' b n r ls ms L := by
  obtain ⟨Pa, Pb, h1, h2, h3, h4, h5⟩ := h
  exact ⟨Pb, Pa, h2, h1, h4, h3, h5⟩
theorem P4.bel (h : P4 w W b n r ls ms L b' n' r' ls' ms' L') : Below w.heap.size w W := by obtain ⟨_, _, _, _, _, _, h⟩ := h; exact h
theorem P4.two (h : P4 w W b n r ls ms L b' n' r' ls' ms' L') : PJ w W b' n' r' ls' ms' L' := by
  obtain ⟨Pa, Pb, h1, h2, h3, h4, h5⟩ := h
  exact ⟨Pb, h2, fun i hi => ⟨(h4 i hi).1, (h4 i hi).2.1⟩, h5⟩
theorem P4.below (h : P4 w W b n r ls ms L b' n' r' ls' ms' L') (hb : Below W.heap.size W W') : P4 w W' b n r ls ms L b' n' r' ls' ms' L' := by
  obtain ⟨Pa, Pb, h1, h2, h3, h4, h5⟩ := h
  have hz := hb.size
  exact ⟨Pa, Pb, h1.below hb, h2.below hb, fun i hi => ⟨(h3 i hi).1, by have := (h3 i hi).2.1; omega, (h3 i hi).2.2⟩, fun i hi => ⟨(h4 i hi).1, by have := (h4 i hi).2.1; omega, (h4 i hi).2.2⟩, bnext h5 hb⟩
theorem P4.step (h : P4 w W b n r ls ms L b' n' r' ls' ms' L') (hn : n ≤ 999990) (s : Stp) (hk : in64 s.key) : Calls Try.prog 13 #[.pointer (some ⟨b, 0, none⟩), .pointer (some ⟨r, 0, none⟩), .agg (stC s)] W fun e W' => e = .returned (.bool true) ∧ P4 w W' b (n + 1) r ls ms (doL ls ms L s) b' n' r' ls' ms' L' := by
  obtain ⟨Pa, Pb, h1, h2, h3, h4, h5⟩ := h
  have hz := h5.size
  refine (does_in h1 (fun i hi => (h3 i hi).2.1) hn s hk).mono ?_
  rintro e W' ⟨rfl, q, k⟩
  have kz := k.size
  refine ⟨rfl, _, Pb, q, h2.kp k (fun i hi e => (h3 i hi).2.2 e), fun i hi => ?_, fun i hi => ⟨(h4 i hi).1, by have := (h4 i hi).2.1; omega, fun e => ?_⟩, k.below h5 (fun i hi => (h3 i hi).1)⟩
  · rcases hi.1 with e | e
    · exact ⟨(h3 i e).1, hi.2, (h3 i e).2.2⟩
    · exact ⟨by omega, hi.2, fun q => by have := (h4 i q).2.1; omega⟩
  · rcases e.1 with e | e
    · exact (h4 i hi).2.2 e
    · have := (h4 i hi).2.1; omega
theorem P4.new {w W1 W2 W3 W4 : World} {r r' : Nat} (b1 : Below w.heap.size w W1) (b2 : Below W1.heap.size W1 W2) (b3 : Below W2.heap.size W2 W3) (b4 : Below W3.heap.size W3 W4) (f1 : AL (fun i => w.heap.size ≤ i) W1 b ls ms 0 []) (f2 : AL (fun i => W1.heap.size ≤ i) W2 b' ls' ms' 0 []) (d1 : RL (fun i => W2.heap.size ≤ i) W3 r ls ms []) (d2 : RL (fun i => W3.heap.size ≤ i) W4 r' ls' ms' []) : P4 w W4 b 0 r ls ms [] b' 0 r' ls' ms' [] := by
  have z1 := b1.size
  have z2 := b2.size
  have z3 := b3.size
  have z4 := b4.size
  refine ⟨fun i => (w.heap.size ≤ i ∧ i < W1.heap.size) ∨ (W2.heap.size ≤ i ∧ i < W3.heap.size), fun i => (W1.heap.size ≤ i ∧ i < W2.heap.size) ∨ (W3.heap.size ≤ i ∧ i < W4.heap.size), ⟨_, _, f1.lt.below (bnext (bnext b2 b3) b4), d1.lt.below b4, fun i hi => ⟨.inl hi, ?_, fun e => ?_⟩, fun i hi => ⟨.inr hi, ?_, fun e => ?_⟩⟩, ⟨_, _, f2.lt.below (bnext b3 b4), d2.lt, fun i hi => ⟨.inl hi, ?_, fun e => ?_⟩, fun i hi => ⟨.inr hi, ?_, fun e => ?_⟩⟩, fun i hi => ⟨?_, ?_, fun e => ?_⟩, fun i hi => ⟨?_, ?_, fun e => ?_⟩, bnext (bnext (bnext b1 b2) b3) b4⟩ <;> omega

end Go.Proofs.Ytknomhgglmgciaa
