/-
  Pairs of queues, from step to step; how they begin.
-/
import Derived.Test.YtkkolefionbbcaaGreatZCD5
set_option linter.unusedSimpArgs false
set_option linter.unusedVariables false
namespace Go.Proofs.YtkkolefionbbcaaGreat
open Go.RowKit Go.Lib

variable {w W W' : World} {b r : Nat} {hold : Int} {hv hu : List (Int × Int)} {S : Nat → Prop} {ws rd us ud : List Opn}
/-- a pair behind i steps, in blocks of which S holds -/
def DQ (w : World) (S : Nat → Prop) (b r : Nat) (hold : Int) (i : Nat) (W : World) : Prop := ∃ hv ws rd, DI hold hv ws rd i ∧ DJ w S b r hold hv ws rd hv ws rd W
def DP (w : World) (b r : Nat) (hold : Int) (i : Nat) (W : World) : Prop := ∃ S, DQ w S b r hold i W
theorem DQ.kp {N : Nat → Prop} {i : Nat} (h : DQ w S b r hold i W) (k : Kp N W W') (hn : ∀ i, N i → ¬ S i ∧ w.heap.size ≤ i) : DQ w S b r hold i W' := by
  obtain ⟨hv, ws, rd, h1, h2⟩ := h
  exact ⟨hv, ws, rd, h1, h2.kp k hn⟩
theorem DQ.below {i : Nat} (h : DQ w S b r hold i W) (hb : Below W.heap.size W W') : DQ w S b r hold i W' := by
  obtain ⟨hv, ws, rd, h1, h2⟩ := h
  exact ⟨hv, ws, rd, h1, h2.below hb⟩
theorem DQ.bel {i : Nat} (h : DQ w S b r hold i W) : Below w.heap.size w W := by
  obtain ⟨hv, ws, rd, h1, h2⟩ := h
  exact h2.bel
theorem DQ.lo {i : Nat} (h : DQ w S b r hold i W) : ∀ i, S i → w.heap.size ≤ i ∧ i < W.heap.size := by
  obtain ⟨hv, ws, rd, h1, h2⟩ := h
  exact h2.lo
theorem DP.below {i : Nat} (h : DP w b r hold i W) (hb : Below W.heap.size W W') : DP w b r hold i W' := by
  obtain ⟨S, h⟩ := h
  exact ⟨S, h.below hb⟩
theorem DP.bel {i : Nat} (h : DP w b r hold i W) : Below w.heap.size w W := by
  obtain ⟨S, h⟩ := h
  exact h.bel
theorem DQ.more {i j : Nat} (h : DQ w S b r hold i W) (hj : i ≤ j) : DQ w S b r hold j W := by
  obtain ⟨hv, ws, rd, h1, h2⟩ := h
  exact ⟨hv, ws, rd, h1.more hj, h2⟩
/-- a step -/
theorem DQ.does {i : Nat} (h : DQ w S b r hold i W) (hi : i ≤ 900) (hd : 0 ≤ hold ∧ hold ≤ 256) (s : Stp) (ad ag : Option Addr) (cd cg : Nat) (hst : StW w s) (e1 : s.vd = .slice ad s.op.deps.length cd) (e2 : s.vg = .slice ag s.op.gone.length cg) (s1 : s.op.deps.length ≤ 3000) (s2 : s.op.gone.length ≤ 3000) (s3 : s.op.text.size ≤ 3000) :
    Calls Tryz.prog 14 #[.pointer (some ⟨b, 0, none⟩), .pointer (some ⟨r, 0, none⟩), .agg #[.int .i64 s.op.ds, .int .i64 s.op.dq, .slice ad s.op.deps.length cd, .int .i64 s.op.kind, .int .i64 s.op.it, .int .i64 s.op.is, .int .i64 s.op.rt, .int .i64 s.op.rs, .string s.op.text, .slice ag s.op.gone.length cg, .int .i64 s.op.site, .bool s.nt, .int .i64 s.tk]] W fun e W' => e = .returned (.bool true) ∧ ∃ S', DQ w S' b r hold (i + 1) W' ∧ (∀ i, S' i → S i ∨ W.heap.size ≤ i) ∧ Kp S W W' := by
  obtain ⟨hv, ws, rd, h1, h2⟩ := h
  have r1 := hst.rd
  have r2 := hst.rg
  rw [e1] at r1
  rw [e2] at r2
  refine (does_in h2 h1 hi hd s.op ad ag _ cd _ cg s.nt s.tk rfl rfl r1 r2 (hst.inn.fit (by omega) (by omega) (by omega)) s1 s2 s3).mono ?_
  rintro e W' ⟨rfl, hv', ws', rd', hi', S', j, hs, k⟩
  exact ⟨rfl, S', ⟨hv', ws', rd', hi', j⟩, hs, k⟩
theorem DP.does {i : Nat} (h : DP w b r hold i W) (hi : i ≤ 900) (hd : 0 ≤ hold ∧ hold ≤ 256) (s : Stp) (ad ag : Option Addr) (cd cg : Nat) (hst : StW w s) (e1 : s.vd = .slice ad s.op.deps.length cd) (e2 : s.vg = .slice ag s.op.gone.length cg) (s1 : s.op.deps.length ≤ 3000) (s2 : s.op.gone.length ≤ 3000) (s3 : s.op.text.size ≤ 3000) :
    Calls Tryz.prog 14 #[.pointer (some ⟨b, 0, none⟩), .pointer (some ⟨r, 0, none⟩), .agg #[.int .i64 s.op.ds, .int .i64 s.op.dq, .slice ad s.op.deps.length cd, .int .i64 s.op.kind, .int .i64 s.op.it, .int .i64 s.op.is, .int .i64 s.op.rt, .int .i64 s.op.rs, .string s.op.text, .slice ag s.op.gone.length cg, .int .i64 s.op.site, .bool s.nt, .int .i64 s.tk]] W fun e W' => e = .returned (.bool true) ∧ DP w b r hold (i + 1) W' := by
  obtain ⟨S, h⟩ := h
  refine (h.does hi hd s ad ag cd cg hst e1 e2 s1 s2 s3).mono ?_
  rintro e W' ⟨rfl, S', h', _, _⟩
  exact ⟨rfl, S', h'⟩
/-- two pairs -/
def D4 (w : World) (b r : Nat) (hold : Int) (b' r' : Nat) (hold' : Int) (i : Nat) (W : World) : Prop := ∃ S S', DQ w S b r hold i W ∧ DQ w S' b' r' hold' i W ∧ ∀ k, S k → ¬ S' k
theorem D4.below {b' r' : Nat} {hold' : Int} {i : Nat} (h : D4 w b r hold b' r' hold' i W) (hb : Below W.heap.size W W') : D4 w b r hold b' r' hold' i W' := by
  obtain ⟨S, S', h1, h2, h3⟩ := h
  exact ⟨S, S', h1.below hb, h2.below hb, h3⟩
theorem D4.bel {b' r' : Nat} {hold' : Int} {i : Nat} (h : D4 w b r hold b' r' hold' i W) : Below w.heap.size w W := by
  obtain ⟨S, S', h1, h2, h3⟩ := h
  exact h1.bel
theorem D4.more {b' r' : Nat} {hold' : Int} {i j : Nat} (h : D4 w b r hold b' r' hold' i W) (hj : i ≤ j) : D4 w b r hold b' r' hold' j W := by
  obtain ⟨S, S', h1, h2, h3⟩ := h
  exact ⟨S, S', h1.more hj, h2.more hj, h3⟩
theorem D4.swap {b' r' : Nat} {hold' : Int} {i : Nat} (h : D4 w b r hold b' r' hold' i W) : D4 w b' r' hold' b r hold i W := by
  obtain ⟨S, S', h1, h2, h3⟩ := h
  exact ⟨S', S, h2, h1, fun k e e' => h3 k e' e⟩
theorem D4.does {b' r' : Nat} {hold' : Int} {i : Nat} (h : D4 w b r hold b' r' hold' i W) (hi : i ≤ 900) (hd : 0 ≤ hold ∧ hold ≤ 256) (s : Stp) (ad ag : Option Addr) (cd cg : Nat) (hst : StW w s) (e1 : s.vd = .slice ad s.op.deps.length cd) (e2 : s.vg = .slice ag s.op.gone.length cg) (s1 : s.op.deps.length ≤ 3000) (s2 : s.op.gone.length ≤ 3000) (s3 : s.op.text.size ≤ 3000) :
    Calls Tryz.prog 14 #[.pointer (some ⟨b, 0, none⟩), .pointer (some ⟨r, 0, none⟩), .agg #[.int .i64 s.op.ds, .int .i64 s.op.dq, .slice ad s.op.deps.length cd, .int .i64 s.op.kind, .int .i64 s.op.it, .int .i64 s.op.is, .int .i64 s.op.rt, .int .i64 s.op.rs, .string s.op.text, .slice ag s.op.gone.length cg, .int .i64 s.op.site, .bool s.nt, .int .i64 s.tk]] W fun e W' => e = .returned (.bool true) ∧ D4 w b r hold b' r' hold' (i + 1) W' := by
  obtain ⟨S, S', h1, h2, h3⟩ := h
  have hlo1 := h1.lo
  have hlo2 := h2.lo
  refine (h1.does hi hd s ad ag cd cg hst e1 e2 s1 s2 s3).mono ?_
  rintro e W' ⟨rfl, S2, h', hs, k⟩
  refine ⟨rfl, S2, S', h', (h2.kp k (fun i e => ⟨h3 i e, (hlo1 i e).1⟩)).more (by omega), fun i e e' => ?_⟩
  rcases hs i e with q | q
  · exact h3 i q e'
  · have := (hlo2 i e').2; omega
/-- what New says -/
def newC (hold : Int) (l : List (Int × Int)) : Int := if 0 ≤ hold ∧ hold ≤ 256 then chk l else 1
def NwP (w : World) (hold : Int) (l : List (Int × Int)) (c : Int) (qo : Option Addr) (W : World) : Prop := (c = 0 ∧ (0 ≤ hold ∧ hold ≤ 256) ∧ chk l = 0 ∧ ∃ b, qo = some ⟨b, 0, none⟩ ∧ QP (fun i => w.heap.size ≤ i) W b hold l [] []) ∨ (c ≠ 0 ∧ qo = none)
def NwD (w : World) (hold : Int) (l : List (Int × Int)) (c : Int) (qo : Option Addr) (W : World) : Prop := (c = 0 ∧ ∃ b, qo = some ⟨b, 0, none⟩ ∧ ∀ w0, QQ w0 (fun i => w.heap.size ≤ i) W b hold l [] []) ∨ (c ≠ 0 ∧ qo = none)
theorem newP_in (hold : Int) (v : Value) (l : List (Int × Int)) (w : World) (h : RI w v l) (hl : l.length ≤ 1000000) : Calls Tryz.prog 11 #[.int .i64 hold, v] w fun e W => ∃ qo, e = .returned (.tuple #[.pointer qo, .int .i64 (newC hold l)]) ∧ NwP w hold l (newC hold l) qo W ∧ Below w.heap.size w W := by
  refine (New_in hold v l w h hl).mono ?_
  rintro e W ⟨hb, ⟨b, vh, h0, h1, hc, rfl, q⟩ | ⟨c, hc, rfl⟩⟩
  · have : newC hold l = 0 := by unfold newC; rw [if_pos ⟨h0, h1⟩, hc]
    rw [this]
    exact ⟨_, rfl, .inl ⟨rfl, ⟨h0, h1⟩, hc, b, rfl, vh, _, _, [], [], q, rfl, rfl⟩, hb⟩
  · have : newC hold l = c ∧ c ≠ 0 := by
      unfold newC
      rcases hc with ⟨h1, rfl⟩ | ⟨h1, h2, h3, h4⟩
      · rw [if_neg h1]; exact ⟨rfl, by decide⟩
      · rw [if_pos ⟨h1, h2⟩]; exact ⟨h3, h4⟩
    rw [this.1]
    exact ⟨_, rfl, .inr ⟨this.2, rfl⟩, hb⟩
theorem newD_in (hold : Int) (v : Value) (l : List (Int × Int)) (w : World) (h : RI w v l) (hl : l.length ≤ 1000000) : Calls Tryz.prog 12 #[.int .i64 hold, v] w fun e W => ∃ qo, e = .returned (.tuple #[.pointer qo, .int .i64 (newC hold l)]) ∧ NwD w hold l (newC hold l) qo W ∧ Below w.heap.size w W := by
  refine (refNew_in hold v l w h hl).mono ?_
  rintro e W ⟨hb, ⟨b, vh, h0, h1, hc, rfl, q⟩ | ⟨c, hc, rfl⟩⟩
  · have : newC hold l = 0 := by unfold newC; rw [if_pos ⟨h0, h1⟩, hc]
    rw [this]
    rw [vec_mrg hc] at q
    exact ⟨_, rfl, .inl ⟨rfl, b, rfl, fun w0 => ⟨vh, _, _, [], [], q w0, rfl, rfl⟩⟩, hb⟩
  · have : newC hold l = c ∧ c ≠ 0 := by
      unfold newC
      rcases hc with ⟨h1, rfl⟩ | ⟨h1, h2, h3, h4⟩
      · rw [if_neg h1]; exact ⟨rfl, by decide⟩
      · rw [if_pos ⟨h1, h2⟩]; exact ⟨h3, h4⟩
    rw [this.1]
    exact ⟨_, rfl, .inr ⟨this.2, rfl⟩, hb⟩
/-- both are made, one behind the other -/
theorem DQ.new {X Y Y' Z : World} (hh : 0 ≤ hold) (hc : chk hv = 0) (hq : QP (fun i => X.heap.size ≤ i) Y b hold hv [] []) (hb : Below Y.heap.size Y Y') (hd : QQ w (fun i => Y'.heap.size ≤ i) Z r hold hv [] []) (hb2 : Below Y'.heap.size Y' Z) (hX : Below w.heap.size w X) (hXY : Below X.heap.size X Y) : DQ w (fun i => (X.heap.size ≤ i ∧ i < Y.heap.size) ∨ (Y'.heap.size ≤ i ∧ i < Z.heap.size)) b r hold 0 Z := by
  have z0 := hX.size
  have z1 := hXY.size
  have z2 := hb.size
  have z3 := hb2.size
  have q1 := hq.tight.kp (N := fun _ => False) (Kp.of_below (bnext hb hb2)) (fun _ e => e.elim)
  refine ⟨hv, [], [], DI.start hh hc, ⟨⟨_, _, q1, hd.tight, fun i hi => ⟨.inl hi, fun e => ?_⟩, fun i hi => .inr hi⟩, fun i hi => ?_, bnext hX (bnext hXY (bnext hb hb2))⟩⟩
  · have := e.1; have := hi.2; omega
  · rcases hi with hi | hi
    · exact ⟨by omega, by omega⟩
    · exact ⟨by omega, by omega⟩

end Go.Proofs.YtkkolefionbbcaaGreat
