/-
  Within a step: both nets, and what is kept.
-/
import Derived.Test.YteomalmflebkhaaZRfL
import Derived.Test.YteomalmflebkhaaZNY
set_option linter.unusedSimpArgs false
set_option linter.unusedVariables false
namespace Go.Proofs.Yteomalmflebkhaa
open Go.RowKit Go.Lib

variable {P N S0 T0 E E' : Nat → Prop} {w W W' X X' : World} {b r p f q g n k kb : Nat} {c : Cp} {s s' s2 : Stn} {v u : Value} {e : Ending} {x : Stp}
/-- both nets, in blocks apart from each other and from E -/
def SP (S0 T0 : Nat → Prop) (W : World) (b r : Nat) (E : Nat → Prop) (s s' : Stn) (X : World) : Prop := ∃ S T, NL S X b s ∧ HL T X r s' ∧ (∀ i, S i → (S0 i ∨ W.heap.size ≤ i) ∧ i < X.heap.size ∧ ¬ T i ∧ ¬ E i) ∧ (∀ i, T i → (T0 i ∨ W.heap.size ≤ i) ∧ i < X.heap.size ∧ ¬ E i) ∧ Kp (fun i => S0 i ∨ T0 i) W X
theorem SP.start (h1 : NL S0 W b s) (h2 : HL T0 W r s') (hS : ∀ i, S0 i → i < W.heap.size ∧ ¬ T0 i ∧ ¬ E i) (hT : ∀ i, T0 i → i < W.heap.size ∧ ¬ E i) : SP S0 T0 W b r E s s' W := ⟨S0, T0, h1, h2, fun i hi => ⟨.inl hi, hS i hi⟩, fun i hi => ⟨.inl hi, hT i hi⟩, Kp.refl _ _⟩
theorem SP.below (h : SP S0 T0 W b r E s s' X) (hb : Below X.heap.size X X') : SP S0 T0 W b r E s s' X' := by
  obtain ⟨S, T, h1, h2, h3, h4, h5⟩ := h
  have hz := hb.size
  exact ⟨S, T, h1.below hb, h2.below hb, fun i hi => ⟨(h3 i hi).1, by have := (h3 i hi).2.1; omega, (h3 i hi).2.2⟩, fun i hi => ⟨(h4 i hi).1, by have := (h4 i hi).2.1; omega, (h4 i hi).2.2⟩, h5.trans (Kp.of_below (N := fun _ => False) hb) (fun _ e => e.elim)⟩
theorem SP.ext (h : SP S0 T0 W b r E s s' X) (hb : Below X.heap.size X X') : SP S0 T0 W b r (fun i => E i ∨ X.heap.size ≤ i) s s' X' := by
  obtain ⟨S, T, h1, h2, h3, h4, h5⟩ := h
  have hz := hb.size
  exact ⟨S, T, h1.below hb, h2.below hb, fun i hi => ⟨(h3 i hi).1, by have := (h3 i hi).2.1; omega, (h3 i hi).2.2.1, fun e => by rcases e with e | e; exact (h3 i hi).2.2.2 e; have := (h3 i hi).2.1; omega⟩, fun i hi => ⟨(h4 i hi).1, by have := (h4 i hi).2.1; omega, fun e => by rcases e with e | e; exact (h4 i hi).2.2 e; have := (h4 i hi).2.1; omega⟩, h5.trans (Kp.of_below (N := fun _ => False) hb) (fun _ e => e.elim)⟩
theorem SP.sub (h : SP S0 T0 W b r E s s' X) (he : ∀ i, E' i → i < X.heap.size → E i) : SP S0 T0 W b r E' s s' X := by
  obtain ⟨S, T, h1, h2, h3, h4, h5⟩ := h
  exact ⟨S, T, h1, h2, fun i hi => ⟨(h3 i hi).1, (h3 i hi).2.1, (h3 i hi).2.2.1, fun e => (h3 i hi).2.2.2 (he i e (h3 i hi).2.1)⟩, fun i hi => ⟨(h4 i hi).1, (h4 i hi).2.1, fun e => (h4 i hi).2.2 (he i e (h4 i hi).2.1)⟩, h5⟩
theorem SP.kp (h : SP S0 T0 W b r E s s' X) (k : Kp N X X') (hn : ∀ i, N i → E i ∧ W.heap.size ≤ i) : SP S0 T0 W b r E s s' X' := by
  obtain ⟨S, T, h1, h2, h3, h4, h5⟩ := h
  have hz := k.size
  exact ⟨S, T, h1.kp k (fun i hi e => (h3 i e).2.2.2 (hn i hi).1), h2.kp k (fun i hi e => (h4 i e).2.2 (hn i hi).1), fun i hi => ⟨(h3 i hi).1, by have := (h3 i hi).2.1; omega, (h3 i hi).2.2⟩, fun i hi => ⟨(h4 i hi).1, by have := (h4 i hi).2.1; omega, (h4 i hi).2.2⟩, h5.trans k (fun i hi => .inr (hn i hi).2)⟩
theorem SP.size (h : SP S0 T0 W b r E s s' X) : W.heap.size ≤ X.heap.size := by obtain ⟨_, _, _, _, _, _, k⟩ := h; exact k.size
theorem SP.gd (h : SP S0 T0 W b r E s s' X) : Gd s := by obtain ⟨_, _, h, _⟩ := h; exact h.gd
/-- what holds behind a call -/
def SC (S0 T0 : Nat → Prop) (W : World) (b r : Nat) (E : Nat → Prop) (s s' : Stn) (X : World) (v : Value) (e : Ending) (X' : World) : Prop := e = .returned v ∧ (SP S0 T0 W b r (fun i => E i ∧ i < X.heap.size) s s' X' ∧ Kp (fun i => ¬ E i) X X')
theorem SP.one (h : SP S0 T0 W b r E s s' X) {F : FuncId} {args : Array Value} (hc : ∀ S, NL S X b s → (∀ i, S i → i < X.heap.size) → Calls Try.prog F args X (CN S X b s2 v)) : Calls Try.prog F args X (SC S0 T0 W b r E s2 s' X v) := by
  obtain ⟨S, T, h1, h2, h3, h4, h5⟩ := h
  have hw := h5.size
  refine (hc S h1 (fun i hi => (h3 i hi).2.1)).mono ?_
  rintro e X' ⟨rfl, hn, k⟩
  have hz := k.size
  refine ⟨rfl, ⟨_, T, hn.lt, h2.kp k (fun i hi e => (h3 i hi).2.2.1 e), fun i hi => ?_, fun i hi => ⟨(h4 i hi).1, by have := (h4 i hi).2.1; omega, fun e => (h4 i hi).2.2 e.1⟩, h5.trans k (fun i hi => ?_)⟩, ⟨k.os, k.tape, k.output, k.size, fun i hi hE => k.block i hi (fun e => hE (h3 i e).2.2.2)⟩⟩
  · obtain ⟨hi, hl⟩ := hi
    rcases hi with hi | hi
    · exact ⟨(h3 i hi).1, hl, (h3 i hi).2.2.1, fun e => (h3 i hi).2.2.2 e.1⟩
    · exact ⟨.inr (by omega), hl, fun e => by have := (h4 i e).2.1; omega, fun e => by have := e.2; omega⟩
  · rcases (h3 i hi).1 with e | e
    · exact .inl (.inl e)
    · exact .inr e
theorem SP.two (h : SP S0 T0 W b r E s s' X) {F : FuncId} {args : Array Value} (hc : ∀ T, HL T X r s' → (∀ i, T i → ¬ E i) → Calls Try.prog F args X (CH T X r s2 v)) : Calls Try.prog F args X (SC S0 T0 W b r E s s2 X v) := by
  obtain ⟨S, T, h1, h2, h3, h4, h5⟩ := h
  have hw := h5.size
  refine (hc T h2 (fun i hi => (h4 i hi).2.2)).mono ?_
  rintro e X' ⟨rfl, hn, k⟩
  have hz := k.size
  refine ⟨rfl, ⟨S, _, h1.kp k (fun i hi e => (h3 i e).2.2.1 hi), hn.lt, fun i hi => ⟨(h3 i hi).1, by have := (h3 i hi).2.1; omega, fun e => ?_, fun e => (h3 i hi).2.2.2 e.1⟩, fun i hi => ?_, h5.trans k (fun i hi => ?_)⟩, ⟨k.os, k.tape, k.output, k.size, fun i hi hE => k.block i hi (fun e => hE (h4 i e).2.2)⟩⟩
  · rcases e.1 with e | e
    · exact (h3 i hi).2.2.1 e
    · have := (h3 i hi).2.1; omega
  · obtain ⟨hi, hl⟩ := hi
    rcases hi with hi | hi
    · exact ⟨(h4 i hi).1, hl, fun e => (h4 i hi).2.2 e.1⟩
    · exact ⟨.inr (by omega), hl, fun e => by have := e.2; omega⟩
  · rcases (h4 i hi).1 with e | e
    · exact .inl (.inr e)
    · exact .inr e
/-- one taken from the program's -/
def ST1 (S0 T0 : Nat → Prop) (W : World) (b r : Nat) (E : Nat → Prop) (s s' : Stn) (k : Int) (X : World) (e : Ending) (X' : World) : Prop := ∃ a n, e = .returned (.tuple #[cpV (tkC s k) (.slice a (tkC s k).dat.length n), .int .i64 (tkE s k)]) ∧ (OwB X' X.heap.size 5 (.slice a (tkC s k).dat.length n) (tkC s k).dat ∧ SP S0 T0 W b r (fun i => (E i ∧ i < X.heap.size) ∨ X.heap.size ≤ i) (tkS s k) s' X' ∧ Kp (fun i => ¬ E i) X X')
theorem SP.tk1 (h : SP S0 T0 W b r E s s' X) {F : FuncId} {args : Array Value} {j : Int} (hc : ∀ S, NL S X b s → (∀ i, S i → i < X.heap.size) → Calls Try.prog F args X (TkA S X b s j)) : Calls Try.prog F args X (ST1 S0 T0 W b r E s s' j X) := by
  obtain ⟨S, T, h1, h2, h3, h4, h5⟩ := h
  have hw := h5.size
  refine (hc S h1 (fun i hi => (h3 i hi).2.1)).mono ?_
  rintro e X' ⟨a, n, rfl, ho, hn, k⟩
  have hz := k.size
  refine ⟨a, n, rfl, ho, ⟨S, T, hn, h2.kp k (fun i hi e => (h3 i hi).2.2.1 e), fun i hi => ⟨(h3 i hi).1, by have := (h3 i hi).2.1; omega, (h3 i hi).2.2.1, fun e => ?_⟩, fun i hi => ⟨(h4 i hi).1, by have := (h4 i hi).2.1; omega, fun e => ?_⟩, h5.trans k (fun i hi => ?_)⟩, ⟨k.os, k.tape, k.output, k.size, fun i hi hE => k.block i hi (fun e => hE (h3 i e).2.2.2)⟩⟩
  · rcases e with e | e
    · exact (h3 i hi).2.2.2 e.1
    · have := (h3 i hi).2.1; omega
  · rcases e with e | e
    · exact (h4 i hi).2.2 e.1
    · have := (h4 i hi).2.1; omega
  · rcases (h3 i hi).1 with e | e
    · exact .inl (.inl e)
    · exact .inr e
/-- one taken from the document's -/
def ST2 (S0 T0 : Nat → Prop) (W : World) (b r : Nat) (E : Nat → Prop) (s s' : Stn) (k : Int) (X : World) (e : Ending) (X' : World) : Prop := ∃ a n, e = .returned (.tuple #[cpV (tkC s' k) (.slice a (tkC s' k).dat.length n), .int .i64 (tkE s' k)]) ∧ (OwB X' X.heap.size 5 (.slice a (tkC s' k).dat.length n) (tkC s' k).dat ∧ SP S0 T0 W b r (fun i => E i ∧ i < X.heap.size) s (tkS s' k) X' ∧ Kp (fun i => ¬ E i) X X')
theorem SP.tk2 (h : SP S0 T0 W b r E s s' X) {F : FuncId} {args : Array Value} {j : Int} (hc : ∀ T, HL T X r s' → Calls Try.prog F args X (TkH T X r s' j)) : Calls Try.prog F args X (ST2 S0 T0 W b r E s s' j X) := by
  obtain ⟨S, T, h1, h2, h3, h4, h5⟩ := h
  have hw := h5.size
  refine (hc T h2).mono ?_
  rintro e X' ⟨a, n, rfl, ho, hn, k⟩
  have hz := k.size
  refine ⟨a, n, rfl, ho, ⟨S, _, h1.kp k (fun i hi e => (h3 i e).2.2.1 hi), hn.lt, fun i hi => ⟨(h3 i hi).1, by have := (h3 i hi).2.1; omega, fun e => ?_, fun e => (h3 i hi).2.2.2 e.1⟩, fun i hi => ?_, h5.trans k (fun i hi => ?_)⟩, ⟨k.os, k.tape, k.output, k.size, fun i hi hE => k.block i hi (fun e => hE (h4 i e).2.2)⟩⟩
  · rcases e.1 with e | e
    · exact (h3 i hi).2.2.1 e
    · have := (h3 i hi).2.1; omega
  · obtain ⟨hi, hl⟩ := hi
    rcases hi with hi | hi
    · exact ⟨(h4 i hi).1, hl, fun e => (h4 i hi).2.2 e.1⟩
    · exact ⟨.inr (by omega), hl, fun e => by have := e.2; omega⟩
  · rcases (h4 i hi).1 with e | e
    · exact .inl (.inr e)
    · exact .inr e
/-- what a step answers -/
def StA (S0 T0 : Nat → Prop) (W : World) (b r : Nat) (s : Stn) (e : Ending) (X : World) : Prop := e = .returned (.bool true) ∧ SP S0 T0 W b r (fun _ => False) s s X
theorem SP.fin (h : SP S0 T0 W b r E s s X) : StA S0 T0 W b r s (.returned (.bool true)) X := ⟨rfl, h.sub (fun _ e _ => e.elim)⟩
/-- the step's box, the row that is handed in, and what it was made of -/
structure KE (W : World) (x : Stp) (g kb : Nat) (E : Nat → Prop) (X : World) : Prop where
  bo : Bx X W.heap.size 32 (stC x)
  ow : OwB X W.heap.size 5 (.slice (some ⟨g, 0, none⟩) (x.dat.length + 1) kb) (x.dat ++ [171])
  rd : RB X x.vd x.dat
  e1 : E W.heap.size
  e2 : E g
  e3 : x.dat ≠ [] → ∀ i, x.vd.ownBlock = some i → E i
theorem KE.kp (h : KE W x g kb E X) (k : Kp N X X') (hn : ∀ i, N i → ¬ E i) : KE W x g kb E X' := ⟨h.bo.kp k (fun e => hn _ e h.e1), h.ow.kp k (fun i hi e => hn i e (by cases hi; exact h.e2)), h.rd.kpe k (fun hd i hi e => hn i e (h.e3 hd i hi)), h.e1, h.e2, h.e3⟩
theorem KE.below (h : KE W x g kb E X) (hb : Below X.heap.size X X') : KE W x g kb E X' := h.kp (N := fun _ => False) (Kp.of_below hb) (fun _ e => e.elim)
theorem KE.wk (h : KE W x g kb E X) (he : ∀ i, E i → i < X.heap.size → E' i) : KE W x g kb E' X := ⟨h.bo, h.ow, h.rd, he _ h.e1 h.bo.lt, he _ h.e2 (h.ow.lt g rfl).2, fun hd i hi => he i (h.e3 hd i hi) (by
  rcases h.rd with ⟨h0, _⟩ | ⟨b, off, cap, e, _, h2, _⟩
  · exact absurd (List.eq_nil_of_length_eq_zero h0) hd
  · rw [e] at hi; cases hi; exact h2)⟩
theorem KE.gv (h : KE W x g kb E X) : RB X (.slice (some ⟨g, 0, none⟩) x.dat.length kb) x.dat := by
  have h1 := h.ow.row
  have hl : x.dat.length + 1 = (x.dat ++ [(171 : Int)]).length := by simp
  rw [hl] at h1
  have h2 := RB.take (n := 0) h1 (k := x.dat.length) (by simp) (fun _ => trivial)
  simpa using h2
theorem KE.cap (h : KE W x g kb E X) : x.dat.length + 1 ≤ kb := by
  rcases h.ow.2 with ⟨e, _⟩ | ⟨g', cap, cur, e, _, _, h1, _⟩
  · cases e
  · simp only [Value.slice.injEq] at e
    obtain ⟨_, _, rfl⟩ := e
    simpa using h1
theorem KE.last (h : KE W x g kb E X) : X.cell? ⟨g, x.dat.length, none⟩ = some (.int .u8 171) := by
  have hr := h.ow
  unfold OwB at hr
  have hl : (x.dat ++ [(171 : Int)]).length = x.dat.length + 1 := by simp
  rw [hl] at hr
  rw [hr.cellAt x.dat.length (by omega), bC_app, List.getElem?_append_right (by rw [bC_len]; exact Nat.le_refl _), bC_len, Nat.sub_self]
  rfl
theorem KE.y (h : KE W x g kb E X) : X.cell? ⟨W.heap.size, 0, none⟩ = some (.int .i64 x.kind) ∧ X.cell? ⟨W.heap.size, 1, none⟩ = some (.int .i64 x.num) ∧ X.cell? ⟨W.heap.size, 2, none⟩ = some (.int .i64 x.frm) ∧ X.cell? ⟨W.heap.size, 3, none⟩ = some (.int .i64 x.to) ∧ X.cell? ⟨W.heap.size, 4, none⟩ = some (.int .i64 x.at_) ∧ X.cell? ⟨W.heap.size, 5, none⟩ = some x.vd := ⟨h.bo.cell 0 _ rfl, h.bo.cell 1 _ rfl, h.bo.cell 2 _ rfl, h.bo.cell 3 _ rfl, h.bo.cell 4 _ rfl, h.bo.cell 5 _ rfl⟩
/-- a byte of a row is written -/
theorem row_set {B m : Nat} {a : Option Addr} {D : List Int} (h : OwB X B 5 (.slice a m k) D) (hD : D.length = m) {j : Nat} (hj : j < m) : ∃ g, a = some ⟨g, 0, none⟩ ∧ B ≤ g ∧ (∃ u, X.cell? ⟨g, j, none⟩ = some u) ∧ X.frozen? ⟨g, j, none⟩ = false ∧ ∀ z : Int, OwB (X.setCell ⟨g, j, none⟩ (.int .u8 z)) B 5 (.slice a m k) (D.set j z) ∧ Kp (fun i => i = g) X (X.setCell ⟨g, j, none⟩ (.int .u8 z)) := by
  obtain ⟨g, rfl⟩ : ∃ g, a = some ⟨g, 0, none⟩ := by
    rcases h.2 with ⟨e, e0⟩ | ⟨g, cap, cur, e, _⟩
    · omega
    · simp only [Value.slice.injEq] at e
      exact ⟨g, e.1⟩
  obtain ⟨cur, hc⟩ := h.ty g rfl
  have hr := h
  unfold OwB at hr
  rw [hD] at hr
  refine ⟨g, rfl, (h.lt g rfl).1, ?_, hc.frozen _, fun z => ⟨?_, Kp.set _ _ _ rfl⟩⟩
  · rw [hr.cellAt j (by omega)]
    exact ⟨_, List.getElem?_eq_getElem (by rw [bC_len]; omega)⟩
  · have h1 := (hr.stored j (.int .u8 z)).1
    unfold OwB
    rw [List.length_set, hD]
    have e : bC (D.set j z) = (bC D).set j (.int .u8 z) := by unfold bC; rw [List.map_set]
    rw [e]
    exact h1
/-- the begin of a step -/
theorem step_rows (h1 : NL S0 W b s) (h2 : HL T0 W r s) (hS : ∀ i, S0 i → i < W.heap.size ∧ ¬ T0 i) (hT : ∀ i, T0 i → i < W.heap.size) (hx : StW W x) (hxl : x.dat.length ≤ 60000) (hfx : x.dat ≠ [] → ∀ i, x.vd.ownBlock = some i → ¬ S0 i ∧ ¬ T0 i) :
    ∃ X0 a1 k1 X1 X2 g kb X3, W.alloc (.cells (stC x) 32) = X0 ∧ Bx X0 W.heap.size 32 (stC x) ∧ (Builtin.append_ #[30, 30] 30 #[.slice none 0 0, x.vd]).run Try.prog X0 = .ok (.slice a1 x.dat.length k1) X1 ∧ X1.alloc (.cells #[.int .u8 171] 5) = X2 ∧ (Builtin.append_ #[30, 30] 30 #[.slice a1 x.dat.length k1, .slice (some ⟨X1.heap.size, 0, none⟩) 1 1]).run Try.prog X2 = .ok (.slice (some ⟨g, 0, none⟩) (x.dat.length + 1) kb) X3 ∧ (KE W x g kb (fun i => i = W.heap.size ∨ i = g ∨ (x.dat ≠ [] ∧ x.vd.ownBlock = some i)) X3 ∧ SP S0 T0 W b r (fun i => i = W.heap.size ∨ i = g ∨ (x.dat ≠ [] ∧ x.vd.ownBlock = some i)) s s X3) := by
  obtain ⟨X0, hX0⟩ : ∃ X0, W.alloc (.cells (stC x) 32) = X0 := ⟨_, rfl⟩
  have bx0 : Bx X0 W.heap.size 32 (stC x) := by rw [← hX0]; exact Bx.new _ _ _
  have b0 : Below W.heap.size W X0 := by rw [← hX0]; exact ballc (Below.refl _ _) _
  obtain ⟨v1, X1, q1, q2, q3⟩ := app_nil 30 5 1 1 _ Try.underlying30 infoB rfl (by decide) X0 X0.heap.size 30 x.vd x.dat.length (bC x.dat) (hx.rd.below b0) (by rw [bC_len, Nat.mul_one]) (bC_one x.dat) (Nat.le_refl _) (by unfold maxLen; omega) (by omega)
  have b1 : Below X0.heap.size X0 X1 := (Below.refl _ _).grown q3 (Nat.le_refl _) (fun k hk => by cases hk)
  obtain ⟨a1, k1, e1⟩ := owns_form q2
  subst e1
  obtain ⟨X2, hX2⟩ : ∃ X2, X1.alloc (.cells #[.int .u8 171] 5) = X2 := ⟨_, rfl⟩
  have bx2 : Bx X2 X1.heap.size 5 #[.int .u8 171] := by rw [← hX2]; exact Bx.new _ _ _
  have b2 : Below X1.heap.size X1 X2 := by rw [← hX2]; exact ballc (Below.refl _ _) _
  have q2' : X2.ownsRow X0.heap.size 5 1 (.slice a1 x.dat.length k1) x.dat.length (bC x.dat) := owns_kp (N := fun _ => False) q2 (Kp.of_below b2) (fun _ _ e => e)
  obtain ⟨i0, hi0, hz0, hz1, hz2⟩ := info_parts infoB
  have hs1 := b1.size
  have hs2 := b2.size
  obtain ⟨v3, X3, p1, p2, p3, _⟩ := run_append_own (P := Try.prog) X2 X0.heap.size 30 30 5 i0 _ 1 1 Try.underlying30 hi0 hz0 hz1 hz2 rfl (by decide) _ x.dat.length _ q2' ⟨X1.heap.size, 0, none⟩ 1 1 [.int .u8 171] rfl (fun j y hy => by
    obtain ⟨hj, e⟩ := List.getElem?_eq_some_iff.1 hy
    have hj0 : j = 0 := by simpa using hj
    subst hj0
    rw [← e]
    exact bx2.cell 0 _ rfl) (fun u hu => by simp at hu; subst hu; rfl) (by unfold maxLen; omega) (by omega) (by omega)
  have b3 : Below X0.heap.size X0 X3 := ((b1.trans (b2.mono hs1))).grown p3 (by omega) (fun k hk => (World.ownsRow.lt q2' k hk).1)
  obtain ⟨a3, kb, e3⟩ := owns_form p2
  subst e3
  obtain ⟨g, e4⟩ : ∃ g, a3 = some ⟨g, 0, none⟩ := by
    rcases p2.2 with ⟨e, e0⟩ | ⟨g, cap, cur, e, _⟩
    · omega
    · simp only [Value.slice.injEq] at e
      exact ⟨g, e.1⟩
  subst e4
  have hg := World.ownsRow.lt p2 g rfl
  have bW : Below W.heap.size W X3 := bnext b0 b3
  have hsz0 : W.heap.size < X0.heap.size := bx0.lt
  refine ⟨X0, a1, k1, X1, X2, g, kb, X3, hX0, bx0, q1, hX2, p1, ⟨bx0.below b3, ?_, hx.rd.below bW, .inl rfl, .inr (.inl rfl), fun hd i hi => .inr (.inr ⟨hd, hi⟩)⟩, ?_⟩
  · show X3.ownsRow _ _ _ _ _ _
    rw [List.length_append, bC_app]
    exact owns_wk p2 (by omega)
  · refine (SP.start h1 h2 (E := fun i => i = W.heap.size ∨ i = g ∨ (x.dat ≠ [] ∧ x.vd.ownBlock = some i)) (fun i hi => ⟨(hS i hi).1, (hS i hi).2, fun e => ?_⟩) (fun i hi => ⟨hT i hi, fun e => ?_⟩)).below bW
    · have := (hS i hi).1
      rcases e with e | e | e
      · omega
      · omega
      · exact (hfx e.1 i e.2).1 hi
    · have := hT i hi
      rcases e with e | e | e
      · omega
      · omega
      · exact (hfx e.1 i e.2).2 hi

end Go.Proofs.Yteomalmflebkhaa
