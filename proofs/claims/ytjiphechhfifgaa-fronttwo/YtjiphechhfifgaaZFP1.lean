/-
  The law's step whole; a pair, two pairs.
-/
import Derived.Test.YtjiphechhfifgaaZFT0
import Derived.Test.YtjiphechhfifgaaZFT1
import Derived.Test.YtjiphechhfifgaaZFT2
import Derived.Test.YtjiphechhfifgaaZFT3
import Derived.Test.YtjiphechhfifgaaZFA1
set_option linter.unusedSimpArgs false
set_option linter.unusedVariables false
namespace Go.Proofs.Ytjiphechhfifgaa
open Go.RowKit Go.Lib

theorem step_in {P : Nat → Prop} {w : World} {b n r : Nat} {S : StF} (h : PX P w (fun _ => False) w b n S r S) (hP : ∀ i, P i → i < w.heap.size) (hn : n ≤ 999999) (s : Stp) (hs : StW w s) (hlv : s.vec.length ≤ 20000) (hlm : s.mem.length ≤ 20000) (hav : ∀ i, rb s.vv s.vec.length i → ¬ P i) (ham : ∀ i, rb s.vm s.mem.length i → ¬ P i) :
    Calls Try.prog 13 #[.pointer (some ⟨b, 0, none⟩), .pointer (some ⟨r, 0, none⟩), stA s] w (StpA P w b n r (doS s S)) := by
  by_cases k1 : s.kind = 1
  · exact step_1 h hP hn s hs hlv hlm hav ham k1
  by_cases k2 : s.kind = 2
  · exact step_2 h hP hn s hs hlv hlm hav ham k2
  by_cases k3 : s.kind = 3
  · exact step_3 h hP hn s hs hlv hlm hav ham k3
  exact step_0 h hP hn s hs hlv hlm hav ham k1 k2 k3

/-- a pair that lies in Pa -/
def QA (Pa : Nat → Prop) (W : World) (b n r : Nat) (S : StF) : Prop := ∃ P1 P2, FR P1 W b n S ∧ DF P2 W r S ∧ (∀ i, P1 i → Pa i ∧ i < W.heap.size ∧ ¬ P2 i) ∧ (∀ i, P2 i → Pa i ∧ i < W.heap.size ∧ ¬ P1 i)
variable {Pa Pb : Nat → Prop} {w W W' : World} {b n r b' n' r' : Nat} {S S' : StF}
theorem QA.kp {N : Nat → Prop} (h : QA Pa W b n r S) (k : Kp N W W') (hn : ∀ i, N i → ¬ Pa i) : QA Pa W' b n r S := by
  obtain ⟨P1, P2, h1, h2, h3, h4⟩ := h
  have hz := k.size
  exact ⟨P1, P2, h1.kp k (fun i hi e => hn i hi (h3 i e).1), h2.kp k (fun i hi e => hn i hi (h4 i e).1), fun i hi => ⟨(h3 i hi).1, by have := (h3 i hi).2.1; omega, (h3 i hi).2.2⟩, fun i hi => ⟨(h4 i hi).1, by have := (h4 i hi).2.1; omega, (h4 i hi).2.2⟩⟩
theorem QA.below (h : QA Pa W b n r S) (hb : Below W.heap.size W W') : QA Pa W' b n r S := h.kp (N := fun _ => False) (Kp.of_below hb) (fun _ h => h.elim)
theorem QA.alike (h : QA Pa W b n r S) : Calls Try.prog 14 #[.pointer (some ⟨b, 0, none⟩), .pointer (some ⟨r, 0, none⟩)] W fun e W' => e = .returned (.bool true) ∧ Below W.heap.size W W' := by
  obtain ⟨P1, P2, h1, h2, _⟩ := h
  exact alike_in h1 h2
theorem QA.step (h : QA Pa W b n r S) (hP : ∀ i, Pa i → i < W.heap.size) (hn : n ≤ 999999) (s : Stp) (hs : StW W s) (hlv : s.vec.length ≤ 20000) (hlm : s.mem.length ≤ 20000) (hav : ∀ i, rb s.vv s.vec.length i → ¬ Pa i) (ham : ∀ i, rb s.vm s.mem.length i → ¬ Pa i) :
    Calls Try.prog 13 #[.pointer (some ⟨b, 0, none⟩), .pointer (some ⟨r, 0, none⟩), stA s] W fun e W' => e = .returned (.bool true) ∧ QA (fun i => (Pa i ∨ W.heap.size ≤ i) ∧ i < W'.heap.size) W' b (n + 1) r (doS s S) ∧ Kp Pa W W' := by
  have hx : PX Pa W (fun _ => False) W b n S r S := by
    obtain ⟨P1, P2, h1, h2, h3, h4⟩ := h
    exact ⟨P1, P2, h1, h2, fun i hi => ⟨.inl (h3 i hi).1, (h3 i hi).2.1, (h3 i hi).2.2, fun e => e⟩, fun i hi => ⟨.inl (h4 i hi).1, (h4 i hi).2.1, (h4 i hi).2.2, fun e => e⟩, fun i e => e.elim, Kp.refl _ _⟩
  refine (step_in hx hP hn s hs hlv hlm hav ham).mono ?_
  rintro e W' ⟨rfl, P1, P2, h1, h2, h3, h4, h5, h6⟩
  exact ⟨rfl, ⟨P1, P2, h1, h2, fun i hi => ⟨⟨(h3 i hi).1, (h3 i hi).2.1⟩, (h3 i hi).2.1, (h3 i hi).2.2.1⟩, fun i hi => ⟨⟨(h4 i hi).1, (h4 i hi).2.1⟩, (h4 i hi).2.1, (h4 i hi).2.2.1⟩⟩, h6⟩

/-- a pair in new memory -/
def PJ (w W : World) (b n r : Nat) (S : StF) : Prop := ∃ Pa, QA Pa W b n r S ∧ (∀ i, Pa i → w.heap.size ≤ i ∧ i < W.heap.size) ∧ Below w.heap.size w W
theorem PJ.bel (h : PJ w W b n r S) : Below w.heap.size w W := by obtain ⟨_, _, _, h⟩ := h; exact h
theorem PJ.below (h : PJ w W b n r S) (hb : Below W.heap.size W W') : PJ w W' b n r S := by
  obtain ⟨Pa, h1, h2, h3⟩ := h
  have hz := hb.size
  exact ⟨Pa, h1.below hb, fun i hi => ⟨(h2 i hi).1, by have := (h2 i hi).2; omega⟩, bnext h3 hb⟩
theorem PJ.alike (h : PJ w W b n r S) : Calls Try.prog 14 #[.pointer (some ⟨b, 0, none⟩), .pointer (some ⟨r, 0, none⟩)] W fun e W' => e = .returned (.bool true) ∧ PJ w W' b n r S := by
  have h0 := h
  obtain ⟨Pa, h1, h2, h3⟩ := h
  refine h1.alike.mono ?_
  rintro e W' ⟨rfl, hb⟩
  exact ⟨rfl, h0.below hb⟩
theorem PJ.step (h : PJ w W b n r S) (hn : n ≤ 999999) (s : Stp) (hs : StW w s) (hlv : s.vec.length ≤ 20000) (hlm : s.mem.length ≤ 20000) :
    Calls Try.prog 13 #[.pointer (some ⟨b, 0, none⟩), .pointer (some ⟨r, 0, none⟩), stA s] W fun e W' => e = .returned (.bool true) ∧ PJ w W' b (n + 1) r (doS s S) := by
  obtain ⟨Pa, h1, h2, h3⟩ := h
  have hz := h3.size
  refine (h1.step (fun i hi => (h2 i hi).2) hn s (hs.below h3) hlv hlm (fun i hi e => by have := rc_lt hs.rv hi; have := (h2 i e).1; omega) (fun i hi e => by have := rc_lt hs.rm hi; have := (h2 i e).1; omega)).mono ?_
  rintro e W' ⟨rfl, q, k⟩
  refine ⟨rfl, _, q, fun i hi => ⟨?_, hi.2⟩, k.below h3 (fun i hi => (h2 i hi).1)⟩
  rcases hi.1 with e | e
  · exact (h2 i e).1
  · omega
/-- a new one and the document's -/
theorem QA.new {w1 W2 W3 : World} (h1 : FR (fun i => w1.heap.size ≤ i) W2 b 0 (fun _ => none)) (b2 : Below W2.heap.size W2 W3) (h2 : DF (fun i => W2.heap.size ≤ i) W3 r (fun _ => none)) : QA (fun i => w1.heap.size ≤ i ∧ i < W3.heap.size) W3 b 0 r (fun _ => none) := by
  have hz := b2.size
  refine ⟨_, _, (h1.lt).below b2, h2.lt, fun i hi => ⟨⟨hi.1, by have := hi.2; omega⟩, by have := hi.2; omega, fun e => by have := e.1; have := hi.2; omega⟩, fun i hi => ⟨⟨?_, hi.2⟩, hi.2, fun e => by have := hi.1; have := e.2; omega⟩⟩
  obtain ⟨hb, pv, hx, _⟩ := h1
  have := hx.lt
  have := hi.1
  omega

/-- two pairs in new memory -/
def P4 (w W : World) (b n r : Nat) (S : StF) (b' n' r' : Nat) (S' : StF) : Prop := ∃ Pa Pb, QA Pa W b n r S ∧ QA Pb W b' n' r' S' ∧ (∀ i, Pa i → w.heap.size ≤ i ∧ i < W.heap.size ∧ ¬ Pb i) ∧ (∀ i, Pb i → w.heap.size ≤ i ∧ i < W.heap.size ∧ ¬ Pa i) ∧ Below w.heap.size w W
theorem P4.swap (h : P4 w W b n r S b' n' r' S') : P4 w W b' n' r' S' b n r S := by
  obtain ⟨Pa, Pb, h1, h2, h3, h4, h5⟩ := h
  exact ⟨Pb, Pa, h2, h1, h4, h3, h5⟩
theorem P4.bel (h : P4 w W b n r S b' n' r' S') : Below w.heap.size w W := by obtain ⟨_, _, _, _, _, _, h⟩ := h; exact h
theorem P4.below (h : P4 w W b n r S b' n' r' S') (hb : Below W.heap.size W W') : P4 w W' b n r S b' n' r' S' := by
  obtain ⟨Pa, Pb, h1, h2, h3, h4, h5⟩ := h
  have hz := hb.size
  exact ⟨Pa, Pb, h1.below hb, h2.below hb, fun i hi => ⟨(h3 i hi).1, by have := (h3 i hi).2.1; omega, (h3 i hi).2.2⟩, fun i hi => ⟨(h4 i hi).1, by have := (h4 i hi).2.1; omega, (h4 i hi).2.2⟩, bnext h5 hb⟩
theorem P4.alike (h : P4 w W b n r S b' n' r' S') : Calls Try.prog 14 #[.pointer (some ⟨b, 0, none⟩), .pointer (some ⟨r, 0, none⟩)] W fun e W' => e = .returned (.bool true) ∧ P4 w W' b n r S b' n' r' S' := by
  have h0 := h
  obtain ⟨Pa, Pb, h1, h2, h3, h4, h5⟩ := h
  refine h1.alike.mono ?_
  rintro e W' ⟨rfl, hb⟩
  exact ⟨rfl, h0.below hb⟩
theorem P4.step (h : P4 w W b n r S b' n' r' S') (hn : n ≤ 999999) (s : Stp) (hs : StW w s) (hlv : s.vec.length ≤ 20000) (hlm : s.mem.length ≤ 20000) :
    Calls Try.prog 13 #[.pointer (some ⟨b, 0, none⟩), .pointer (some ⟨r, 0, none⟩), stA s] W fun e W' => e = .returned (.bool true) ∧ P4 w W' b (n + 1) r (doS s S) b' n' r' S' := by
  obtain ⟨Pa, Pb, h1, h2, h3, h4, h5⟩ := h
  have hz := h5.size
  refine (h1.step (fun i hi => (h3 i hi).2.1) hn s (hs.below h5) hlv hlm (fun i hi e => by have := rc_lt hs.rv hi; have := (h3 i e).1; omega) (fun i hi e => by have := rc_lt hs.rm hi; have := (h3 i e).1; omega)).mono ?_
  rintro e W' ⟨rfl, q, k⟩
  have kz := k.size
  refine ⟨rfl, _, Pb, q, h2.kp k (fun i hi e => (h3 i hi).2.2 e), fun i hi => ?_, fun i hi => ⟨(h4 i hi).1, by have := (h4 i hi).2.1; omega, fun e => ?_⟩, k.below h5 (fun i hi => (h3 i hi).1)⟩
  · rcases hi.1 with e | e
    · exact ⟨(h3 i e).1, hi.2, (h3 i e).2.2⟩
    · exact ⟨by omega, hi.2, fun q => by have := (h4 i q).2.1; omega⟩
  · rcases e.1 with e | e
    · exact (h4 i hi).2.2 e
    · have := (h4 i hi).2.1; omega

end Go.Proofs.Ytjiphechhfifgaa
