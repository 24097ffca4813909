/-
  Pairs in new memory: one, two.
-/
import Derived.Test.YtiekholaheddhaaZPI
import Derived.Test.YtiekholaheddhaaZPK
import Derived.Test.YtiekholaheddhaaZPS
set_option linter.unusedSimpArgs false
set_option linter.unusedVariables false
namespace Go.Proofs.Ytiekholaheddhaa
open Go.RowKit Go.Lib

/-- a pair in new memory -/
def PJ (w W : World) (b r : Nat) (s : St) : Prop := ∃ Pa, QA Pa W 39 b 41 r s s ∧ (∀ i, Pa i → w.heap.size ≤ i ∧ i < W.heap.size) ∧ Below w.heap.size w W
variable {w W W' : World} {b r b' r' : Nat} {s s' : St}
theorem PJ.bel (h : PJ w W b r s) : Below w.heap.size w W := by obtain ⟨_, _, _, h⟩ := h; exact h
theorem PJ.below (h : PJ w W b r s) (hb : Below W.heap.size W W') : PJ w W' b r s := by
  obtain ⟨Pa, h1, h2, h3⟩ := h
  have hz := hb.size
  exact ⟨Pa, h1.below hb, fun i hi => ⟨(h2 i hi).1, by have := (h2 i hi).2; omega⟩, bnext h3 hb⟩
theorem QA.new {t t' : TypeId} {w1 W2 W3 : World} (h1 : PL (fun i => w1.heap.size ≤ i) W2 t b s) (b1 : Below w1.heap.size w1 W2) (b2 : Below W2.heap.size W2 W3) (h2 : PL (fun i => W2.heap.size ≤ i) W3 t' r s') : QA (fun i => w1.heap.size ≤ i ∧ i < W3.heap.size) W3 t b t' r s s' := by
  have hz := b2.size
  have hz1 := b1.size
  exact ⟨_, _, (h1.lt).below b2, h2.lt, fun i hi => ⟨⟨hi.1, by have := hi.2; omega⟩, by have := hi.2; omega, fun e => by have := e.1; have := hi.2; omega⟩, fun i hi => ⟨⟨by have := hi.1; omega, hi.2⟩, hi.2, fun e => by have := hi.1; have := e.2; omega⟩⟩
theorem PJ.new {W2 W3 : World} (h1 : PL (fun i => w.heap.size ≤ i) W2 39 b s) (b1 : Below w.heap.size w W2) (b2 : Below W2.heap.size W2 W3) (h2 : PL (fun i => W2.heap.size ≤ i) W3 41 r s) : PJ w W3 b r s := ⟨_, QA.new h1 b1 b2 h2, fun i hi => hi, bnext b1 b2⟩
theorem zero_pair (w : World) {X Y : World} (hX : w.alloc (.cells #[.int .i64 0, .int .i64 0, .int .i64 0, .slice none 0 0, .int .i64 0, .int .i64 0] 39) = X) (hY : X.alloc (.cells #[.int .i64 0, .int .i64 0, .int .i64 0, .slice none 0 0, .int .i64 0, .int .i64 0] 41) = Y) : PJ w Y w.heap.size (w.heap.size + 1) zerS := by
  have bX : Below w.heap.size w X := by rw [← hX]; exact ballc (Below.refl _ _) _
  have bY : Below X.heap.size X Y := by rw [← hY]; exact ballc (Below.refl _ _) _
  have zX : X.heap.size = w.heap.size + 1 := by rw [← hX]; simp
  have a1 : PL (fun i => w.heap.size ≤ i) X 39 w.heap.size zerS := by rw [← hX]; exact pl_zero w _
  have a2 : PL (fun i => X.heap.size ≤ i) Y 41 (w.heap.size + 1) zerS := by rw [← zX, ← hY]; exact pl_zero X _
  exact PJ.new a1 bX bY a2
theorem PJ.step (h : PJ w W b r s) (x : Stp) : Calls Try.prog 11 #[.pointer (some ⟨b, 0, none⟩), .pointer (some ⟨r, 0, none⟩), .agg (stC x)] W fun e W' => e = .returned (.bool true) ∧ PJ w W' b r (doS s x) := by
  obtain ⟨Pa, h1, h2, h3⟩ := h
  have hz := h3.size
  refine (does_in h1 (fun i hi => (h2 i hi).2) x).mono ?_
  rintro e W' ⟨rfl, q, k⟩
  refine ⟨rfl, _, q, fun i hi => ⟨?_, hi.2⟩, k.below h3 (fun i hi => (h2 i hi).1)⟩
  rcases hi.1 with e | e
  · exact (h2 i e).1
  · omega
theorem PJ.stepB {V : World} {bx : Nat} {T : TypeId} {cs : Array Value} (h : PJ w W b r s) (hV : Below W.heap.size W V) (hB : Bx V bx T cs) (hbx : W.heap.size ≤ bx) (x : Stp) : Calls Try.prog 11 #[.pointer (some ⟨b, 0, none⟩), .pointer (some ⟨r, 0, none⟩), .agg (stC x)] V fun e W' => e = .returned (.bool true) ∧ PJ w W' b r (doS s x) ∧ Bx W' bx T cs := by
  obtain ⟨Pa, h1, h2, h3⟩ := h
  have hz := h3.size
  have hzV := hV.size
  refine (does_in (h1.below hV) (fun i hi => by have := (h2 i hi).2; omega) x).mono ?_
  rintro e W' ⟨rfl, q, k⟩
  refine ⟨rfl, ⟨_, q, fun i hi => ⟨?_, hi.2⟩, k.below (bnext h3 hV) (fun i hi => (h2 i hi).1)⟩, hB.kp k (fun e => by have := (h2 _ e).2; omega)⟩
  rcases hi.1 with e | e
  · exact (h2 i e).1
  · omega
/-- two pairs in new memory -/
def P4 (w W : World) (b r : Nat) (s : St) (b' r' : Nat) (s' : St) : Prop := ∃ Pa Pb, QA Pa W 39 b 41 r s s ∧ QA Pb W 39 b' 41 r' s' s' ∧ (∀ i, Pa i → w.heap.size ≤ i ∧ i < W.heap.size ∧ ¬ Pb i) ∧ (∀ i, Pb i → w.heap.size ≤ i ∧ i < W.heap.size ∧ ¬ Pa i) ∧ Below w.heap.size w W
theorem P4.swap (h : P4 w W b r s b' r' s') : P4 w W b' r' s' b r s := by
  obtain ⟨Pa, Pb, h1, h2, h3, h4, h5⟩ := h
  exact ⟨Pb, Pa, h2, h1, h4, h3, h5⟩
theorem P4.bel (h : P4 w W b r s b' r' s') : Below w.heap.size w W := by obtain ⟨_, _, _, _, _, _, h⟩ := h; exact h
theorem P4.step (h : P4 w W b r s b' r' s') (x : Stp) : Calls Try.prog 11 #[.pointer (some ⟨b, 0, none⟩), .pointer (some ⟨r, 0, none⟩), .agg (stC x)] W fun e W' => e = .returned (.bool true) ∧ P4 w W' b r (doS s x) b' r' s' := by
  obtain ⟨Pa, Pb, h1, h2, h3, h4, h5⟩ := h
  have hz := h5.size
  refine (does_in h1 (fun i hi => (h3 i hi).2.1) x).mono ?_
  rintro e W' ⟨rfl, q, k⟩
  have kz := k.size
  refine ⟨rfl, _, Pb, q, h2.kp k (fun i hi e => (h3 i hi).2.2 e), fun i hi => ?_, fun i hi => ⟨(h4 i hi).1, by have := (h4 i hi).2.1; omega, fun e => ?_⟩, k.below h5 (fun i hi => (h3 i hi).1)⟩
  · rcases hi.1 with e | e
    · exact ⟨(h3 i e).1, hi.2, (h3 i e).2.2⟩
    · exact ⟨by omega, hi.2, fun q => by have := (h4 i q).2.1; omega⟩
  · rcases e.1 with e | e
    · exact (h4 i hi).2.2 e
    · have := (h4 i hi).2.1; omega
theorem P4.new {w W1 W2 W3 W4 : World} {r r' : Nat} (b1 : Below w.heap.size w W1) (b2 : Below W1.heap.size W1 W2) (b3 : Below W2.heap.size W2 W3) (b4 : Below W3.heap.size W3 W4) (f1 : PL (fun i => w.heap.size ≤ i) W1 39 b s) (f2 : PL (fun i => W1.heap.size ≤ i) W2 39 b' s') (d1 : PL (fun i => W2.heap.size ≤ i) W3 41 r s) (d2 : PL (fun i => W3.heap.size ≤ i) W4 41 r' s') : P4 w W4 b r s b' r' s' := by
  have z1 := b1.size
  have z2 := b2.size
  have z3 := b3.size
  have z4 := b4.size
  refine ⟨fun i => (w.heap.size ≤ i ∧ i < W1.heap.size) ∨ (W2.heap.size ≤ i ∧ i < W3.heap.size), fun i => (W1.heap.size ≤ i ∧ i < W2.heap.size) ∨ (W3.heap.size ≤ i ∧ i < W4.heap.size), ⟨_, _, f1.lt.below (bnext (bnext b2 b3) b4), d1.lt.below b4, fun i hi => ⟨.inl hi, ?_, fun e => ?_⟩, fun i hi => ⟨.inr hi, ?_, fun e => ?_⟩⟩, ⟨_, _, f2.lt.below (bnext b3 b4), d2.lt, fun i hi => ⟨.inl hi, ?_, fun e => ?_⟩, fun i hi => ⟨.inr hi, ?_, fun e => ?_⟩⟩, fun i hi => ⟨?_, ?_, fun e => ?_⟩, fun i hi => ⟨?_, ?_, fun e => ?_⟩, bnext (bnext (bnext b1 b2) b3) b4⟩ <;> omega
/-- the first pair is there, or it is not -/
def TW (w W : World) (hasA : Bool) (ba ra bb rb : Nat) : Prop := (hasA = true ∧ ∃ S S', P4 w W ba ra S bb rb S') ∨ (hasA = false ∧ ∃ S', PJ w W bb rb S')
theorem TW.bel {hasA : Bool} {ba ra bb rb : Nat} (h : TW w W hasA ba ra bb rb) : Below w.heap.size w W := by
  rcases h with ⟨_, S, S', h⟩ | ⟨_, S', h⟩
  · exact h.bel
  · exact h.bel
theorem TW.one {ba ra bb rb : Nat} (h : TW w W true ba ra bb rb) (x : Stp) : Calls Try.prog 11 #[.pointer (some ⟨ba, 0, none⟩), .pointer (some ⟨ra, 0, none⟩), .agg (stC x)] W fun e W' => e = .returned (.bool true) ∧ TW w W' true ba ra bb rb := by
  rcases h with ⟨_, S, S', h⟩ | ⟨e, _⟩
  · refine (h.step x).mono ?_
    rintro e W' ⟨rfl, q⟩
    exact ⟨rfl, .inl ⟨rfl, _, _, q⟩⟩
  · cases e
theorem TW.two {hasA : Bool} {ba ra bb rb : Nat} (h : TW w W hasA ba ra bb rb) (x : Stp) : Calls Try.prog 11 #[.pointer (some ⟨bb, 0, none⟩), .pointer (some ⟨rb, 0, none⟩), .agg (stC x)] W fun e W' => e = .returned (.bool true) ∧ TW w W' hasA ba ra bb rb := by
  rcases h with ⟨e, S, S', h⟩ | ⟨e, S', h⟩
  · refine (h.swap.step x).mono ?_
    rintro e' W' ⟨rfl, q⟩
    exact ⟨rfl, .inl ⟨e, _, _, q.swap⟩⟩
  · refine (h.step x).mono ?_
    rintro e' W' ⟨rfl, q⟩
    exact ⟨rfl, .inr ⟨e, _, q⟩⟩

end Go.Proofs.Ytiekholaheddhaa
