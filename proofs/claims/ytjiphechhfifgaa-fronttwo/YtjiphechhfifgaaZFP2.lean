/-
  Two new pairs.
-/
import Derived.Test.YtjiphechhfifgaaZFP1
set_option linter.unusedSimpArgs false
set_option linter.unusedVariables false
namespace Go.Proofs.Ytjiphechhfifgaa
open Go.RowKit Go.Lib

theorem P4.new {w W1 W2 W3 W4 W5 : World} {b r b' r' : Nat} (b1 : Below w.heap.size w W1) (b2 : Below W1.heap.size W1 W2) (b3 : Below W2.heap.size W2 W3) (b4 : Below W3.heap.size W3 W4) (b5 : Below W4.heap.size W4 W5) (f1 : FR (fun i => W1.heap.size ≤ i) W2 b 0 (fun _ => none)) (f2 : FR (fun i => W2.heap.size ≤ i) W3 b' 0 (fun _ => none)) (d1 : DF (fun i => W3.heap.size ≤ i) W4 r (fun _ => none)) (d2 : DF (fun i => W4.heap.size ≤ i) W5 r' (fun _ => none)) : P4 w W5 b 0 r (fun _ => none) b' 0 r' (fun _ => none) := by
  have z1 := b1.size
  have z2 := b2.size
  have z3 := b3.size
  have z4 := b4.size
  have z5 := b5.size
  refine ⟨fun i => (W1.heap.size ≤ i ∧ i < W2.heap.size) ∨ (W3.heap.size ≤ i ∧ i < W4.heap.size), fun i => (W2.heap.size ≤ i ∧ i < W3.heap.size) ∨ (W4.heap.size ≤ i ∧ i < W5.heap.size), ⟨_, _, f1.lt.below (bnext (bnext b3 b4) b5), d1.lt.below b5, fun i hi => ⟨.inl hi, ?_, fun e => ?_⟩, fun i hi => ⟨.inr hi, ?_, fun e => ?_⟩⟩, ⟨_, _, f2.lt.below (bnext b4 b5), d2.lt, fun i hi => ⟨.inl hi, ?_, fun e => ?_⟩, fun i hi => ⟨.inr hi, ?_, fun e => ?_⟩⟩, fun i hi => ⟨?_, ?_, fun e => ?_⟩, fun i hi => ⟨?_, ?_, fun e => ?_⟩, bnext (bnext (bnext (bnext b1 b2) b3) b4) b5⟩ <;> omega

end Go.Proofs.Ytjiphechhfifgaa
