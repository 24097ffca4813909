/-
  The law's step; pairs of nets from step to step.
-/
import Derived.Test.YteomalmflebkhaaZSC
import Derived.Test.YteomalmflebkhaaZSE
import Derived.Test.YteomalmflebkhaaZSF
import Derived.Test.YteomalmflebkhaaZNX
set_option linter.unusedSimpArgs false
set_option linter.unusedVariables false
namespace Go.Proofs.Yteomalmflebkhaa
open Go.RowKit Go.Lib

variable {P N S0 T0 U V : Nat → Prop} {w W W0 W' X X' : World} {b r p q : Nat} {s t : Stn} {e : Ending}
theorem step_in (h1 : NL S0 W b s) (h2 : HL T0 W r s) (hS : ∀ i, S0 i → i < W.heap.size ∧ ¬ T0 i) (hT : ∀ i, T0 i → i < W.heap.size) (x : Stp) (hx : StW W x) (hxl : x.dat.length ≤ 60000) (hfx : x.dat ≠ [] → ∀ i, x.vd.ownBlock = some i → ¬ S0 i ∧ ¬ T0 i) : Calls Try.prog 13 #[.pointer (some ⟨b, 0, none⟩), .pointer (some ⟨r, 0, none⟩), .agg (stC x)] W (StA S0 T0 W b r (doS s x)) := by
  by_cases k1 : x.kind = 1
  · exact step_1 h1 h2 hS hT x hx hxl hfx k1
  by_cases k2 : x.kind = 2
  · exact step_2 h1 h2 hS hT x hx hxl hfx k2
  by_cases k3 : x.kind = 3
  · exact step_3 h1 h2 hS hT x hx hxl hfx k3
  by_cases k4 : x.kind = 4
  · exact step_4 h1 h2 hS hT x hx hxl hfx k4
  by_cases k5 : x.kind = 5
  · exact step_5 h1 h2 hS hT x hx hxl hfx k5
  by_cases k6 : x.kind = 6
  · exact step_6 h1 h2 hS hT x hx hxl hfx k6
  exact step_0 h1 h2 hS hT x hx hxl hfx k1 k2 k3 k4 k5 k6
/-- both nets, in blocks of U, made behind W0 -/
def PJ (W0 : World) (U : Nat → Prop) (b r : Nat) (s : Stn) (X : World) : Prop := ∃ S T, NL S X b s ∧ HL T X r s ∧ (∀ i, S i → U i ∧ ¬ T i) ∧ (∀ i, T i → U i) ∧ (∀ i, U i → W0.heap.size ≤ i ∧ i < X.heap.size) ∧ Below W0.heap.size W0 X
theorem PJ.bel (h : PJ W0 U b r s X) : Below W0.heap.size W0 X := by obtain ⟨_, _, _, _, _, _, _, h⟩ := h; exact h
theorem PJ.lo (h : PJ W0 U b r s X) : ∀ i, U i → W0.heap.size ≤ i ∧ i < X.heap.size := by obtain ⟨_, _, _, _, _, _, h, _⟩ := h; exact h
theorem PJ.kp (h : PJ W0 U b r s X) (k : Kp N X X') (hn : ∀ i, N i → ¬ U i ∧ W0.heap.size ≤ i) : PJ W0 U b r s X' := by
  obtain ⟨S, T, h1, h2, h3, h4, h5, h6⟩ := h
  have hz := k.size
  exact ⟨S, T, h1.kp k (fun i hi e => (hn i hi).1 (h3 i e).1), h2.kp k (fun i hi e => (hn i hi).1 (h4 i e)), h3, h4, fun i hi => ⟨(h5 i hi).1, by have := (h5 i hi).2; omega⟩, k.below h6 (fun i hi => (hn i hi).2)⟩
theorem PJ.below (h : PJ W0 U b r s X) (hb : Below X.heap.size X X') : PJ W0 U b r s X' := h.kp (N := fun _ => False) (Kp.of_below hb) (fun _ e => e.elim)
theorem own_lt {x : Stp} (hx : StW W x) : x.dat ≠ [] → ∀ i, x.vd.ownBlock = some i → i < W.heap.size := fun hd i hi => by
  rcases hx.rd with ⟨h0, _⟩ | ⟨b, off, cap, e, _, h2, _⟩
  · exact absurd (List.eq_nil_of_length_eq_zero h0) hd
  · rw [e] at hi; cases hi; exact h2
theorem PJ.step (h : PJ W0 U b r s X) (x : Stp) (hx : StW W0 x) (hxl : x.dat.length ≤ 60000) : Calls Try.prog 13 #[.pointer (some ⟨b, 0, none⟩), .pointer (some ⟨r, 0, none⟩), .agg (stC x)] X fun e X' => e = .returned (.bool true) ∧ PJ W0 (fun i => (U i ∨ X.heap.size ≤ i) ∧ i < X'.heap.size) b r (doS s x) X' ∧ Kp U X X' := by
  obtain ⟨S, T, h1, h2, h3, h4, h5, h6⟩ := h
  have ho := own_lt hx
  refine (step_in h1 h2 (fun i hi => ⟨(h5 i (h3 i hi).1).2, (h3 i hi).2⟩) (fun i hi => (h5 i (h4 i hi)).2) x (hx.below h6) hxl (fun hd i hi => ?_)).mono ?_
  · have := ho hd i hi
    exact ⟨fun e => by have := (h5 i (h3 i e).1).1; omega, fun e => by have := (h5 i (h4 i e)).1; omega⟩
  · rintro e X' ⟨rfl, S', T', g1, g2, g3, g4, g5⟩
    have hz := g5.size
    have hz0 := h6.size
    have kU : Kp U X X' := ⟨g5.os, g5.tape, g5.output, g5.size, fun i hi hn => g5.block i hi (fun e => hn (by rcases e with e | e; exact (h3 i e).1; exact h4 i e))⟩
    refine ⟨rfl, ⟨S', T', g1, g2, fun i hi => ⟨⟨?_, (g3 i hi).2.1⟩, (g3 i hi).2.2.1⟩, fun i hi => ⟨?_, (g4 i hi).2.1⟩, fun i hi => ⟨?_, hi.2⟩, kU.below h6 (fun i hi => (h5 i hi).1)⟩, kU⟩
    · rcases (g3 i hi).1 with e | e
      · exact .inl (h3 i e).1
      · exact .inr e
    · rcases (g4 i hi).1 with e | e
      · exact .inl (h4 i e)
      · exact .inr e
    · rcases hi.1 with e | e
      · exact (h5 i e).1
      · omega
theorem PJ.gd (h : PJ W0 U b r s X) : Gd s := by obtain ⟨_, _, h, _⟩ := h; exact h.gd
theorem PJ.c1 (h : PJ W0 U b r s X) : Calls Try.prog 15 #[.pointer (some ⟨b, 0, none⟩)] X (CopA X s) := by obtain ⟨_, _, h, _⟩ := h; exact Copies_in h
theorem PJ.c2 (h : PJ W0 U b r s X) : Calls Try.prog 16 #[.pointer (some ⟨r, 0, none⟩)] X (CopA X s) := by obtain ⟨_, _, _, h, _⟩ := h; exact rCopies_in h
/-- what both tell is the same -/
theorem cop2 (hg : Gd s) {X1 X2 : World} {B1 B2 : Nat} {a1 a2 : Option Addr} {k1 k2 : Nat} {L M : List (Cp × Value)} (h1 : CL X1 B1 (.slice a1 s.ls.length k1) L) (e1 : L.map Prod.fst = s.ls) (hb : Below X1.heap.size X1 X2) (h2 : CL X2 B2 (.slice a2 s.ls.length k2) M) (e2 : M.map Prod.fst = s.ls) : Calls Try.prog 14 #[.slice a1 s.ls.length k1, .slice a2 s.ls.length k2] X2 fun e W => e = .returned (.bool true) ∧ Below X2.heap.size X2 W := by
  have l1 : s.ls.length = L.length := by rw [← e1, List.length_map]
  have l2 : s.ls.length = M.length := by rw [← e2, List.length_map]
  have hl := hg.len'
  have r1 := (h1.rcp (CL.len hg e1)).below hb
  have r2 := h2.rcp (CL.len hg e2)
  have hc : ∀ n m, n = L.length → m = M.length → RCp X2 (.slice a1 n k1) L → RCp X2 (.slice a2 m k2) M → Calls Try.prog 14 #[.slice a1 n k1, .slice a2 m k2] X2 fun e W => e = .returned (.bool true) ∧ Below X2.heap.size X2 W := by
    rintro n m rfl rfl q1 q2
    have := copies_in a1 a2 k1 k2 X2 q1 q2 (by omega) (by omega)
    rw [e1, e2, eqL_self] at this
    exact this
  exact hc _ _ l1 l2 r1 r2
/-- two pairs -/
def P4 (W0 : World) (a x b y : Nat) (s t : Stn) (X : World) : Prop := ∃ U V, PJ W0 U a x s X ∧ PJ W0 V b y t X ∧ ∀ i, U i → ¬ V i
variable {a x y : Nat}
theorem P4.swap (h : P4 W0 a x b y s t X) : P4 W0 b y a x t s X := by obtain ⟨U, V, h1, h2, h3⟩ := h; exact ⟨V, U, h2, h1, fun i hi e => h3 i e hi⟩
theorem P4.bel (h : P4 W0 a x b y s t X) : Below W0.heap.size W0 X := by obtain ⟨U, V, h1, h2, h3⟩ := h; exact h1.bel
theorem P4.below (h : P4 W0 a x b y s t X) (hb : Below X.heap.size X X') : P4 W0 a x b y s t X' := by obtain ⟨U, V, h1, h2, h3⟩ := h; exact ⟨U, V, h1.below hb, h2.below hb, h3⟩
theorem P4.step (h : P4 W0 a x b y s t X) (z : Stp) (hx : StW W0 z) (hxl : z.dat.length ≤ 60000) : Calls Try.prog 13 #[.pointer (some ⟨a, 0, none⟩), .pointer (some ⟨x, 0, none⟩), .agg (stC z)] X fun e X' => e = .returned (.bool true) ∧ P4 W0 a x b y (doS s z) t X' := by
  obtain ⟨U, V, h1, h2, h3⟩ := h
  refine (h1.step z hx hxl).mono ?_
  rintro e X' ⟨rfl, g1, g2⟩
  refine ⟨rfl, _, V, g1, h2.kp g2 (fun i hi => ⟨h3 i hi, (h1.lo i hi).1⟩), fun i hi e => ?_⟩
  rcases hi.1 with q | q
  · exact h3 i q e
  · have := (h2.lo i e).2; omega

end Go.Proofs.Yteomalmflebkhaa
