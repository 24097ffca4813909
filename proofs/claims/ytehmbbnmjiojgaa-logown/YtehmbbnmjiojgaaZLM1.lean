/-
  Arguments, opened: steps.
-/
import Derived.Test.YtehmbbnmjiojgaaZLM0
import Derived.Test.YtehmbbnmjiojgaaZQ5
set_option linter.unusedSimpArgs false
set_option linter.unusedVariables false
namespace Go.Proofs.Ytehmbbnmjiojgaa
open Go.RowKit Go.Lib

/-- an operation whose lists lie somewhere -/
structure ElW (W : World) (e : Opn × Value × Value) : Prop where
  vd : ∃ a c, e.2.1 = .slice a e.1.deps.length c
  vg : ∃ a c, e.2.2 = .slice a e.1.gone.length c
  rd : RI W e.2.1 e.1.deps
  rg : RR W e.2.2 e.1.gone
  inn : InA e.1

set_option maxRecDepth 100000 in
theorem open_opL {H : Type} {enc : TypeId × Value → H} {w : World} {base : Nat} {spare : Nat → Bool} {held : Bool} {fuel : Nat} {c0 c1 c2 c3 c4 c5 c6 c7 c8 c9 c10 : Value} {x : DataW H × List MemPlace}
    (hf : DataW.trod enc Try.prog w base spare held fuel 38 [c0, c1, c2, c3, c4, c5, c6, c7, c8, c9, c10] = some x) : ∃ e, [c0, c1, c2, c3, c4, c5, c6, c7, c8, c9, c10] = encO e ∧ ElW w e := by
  obtain ⟨xs, n, _, _, _, hxl, hfs⟩ := DataW.trod_struct Try.underlying38 hf
  have hx : ∀ i, i < 8 → ∃ y, xs[i]? = some y := fun i hi => ⟨xs[i]'(by rw [hxl]; exact hi), List.getElem?_eq_getElem _⟩
  have ci : Try.prog.cellsOf 3 = 1 := by kernel_rfl
  have cD : Try.prog.cellsOf 33 = 2 := by kernel_rfl
  have cI : Try.prog.cellsOf 35 = 2 := by kernel_rfl
  have cV : Try.prog.cellsOf 24 = 1 := by kernel_rfl
  have cS : Try.prog.cellsOf 9 = 1 := by kernel_rfl
  have cR : Try.prog.cellsOf 36 = 1 := by kernel_rfl
  obtain ⟨y0, e0⟩ := hx 0 (by omega)
  have g0 := (hfs 0 _ rfl).trans e0
  obtain ⟨y1, e1⟩ := hx 1 (by omega)
  have g1 := (hfs 1 _ rfl).trans e1
  obtain ⟨y2, e2⟩ := hx 2 (by omega)
  have g2 := (hfs 2 _ rfl).trans e2
  obtain ⟨y3, e3⟩ := hx 3 (by omega)
  have g3 := (hfs 3 _ rfl).trans e3
  obtain ⟨y4, e4⟩ := hx 4 (by omega)
  have g4 := (hfs 4 _ rfl).trans e4
  obtain ⟨y5, e5⟩ := hx 5 (by omega)
  have g5 := (hfs 5 _ rfl).trans e5
  obtain ⟨y6, e6⟩ := hx 6 (by omega)
  have g6 := (hfs 6 _ rfl).trans e6
  obtain ⟨y7, e7⟩ := hx 7 (by omega)
  have g7 := (hfs 7 _ rfl).trans e7
  simp at g0
  rw [cD] at g0
  try simp at g0
  simp at g1
  rw [cV] at g1
  try simp at g1
  simp at g2
  rw [ci] at g2
  try simp at g2
  simp at g3
  rw [cI] at g3
  try simp at g3
  simp at g4
  rw [cI] at g4
  try simp at g4
  simp at g5
  rw [cS] at g5
  try simp at g5
  simp at g6
  rw [cR] at g6
  try simp at g6
  simp at g7
  rw [ci] at g7
  try simp at g7
  obtain ⟨a0, a1, rfl, rfl, w0, w1⟩ := open_two ⟨_, _, Try.underlying33, rfl, rfl, rfl, rfl⟩ g0
  obtain ⟨a3, q3, _, w3⟩ := DataW.trod_int Try.underlying3 g2
  obtain ⟨a4, a5, rfl, rfl, w4, w5⟩ := open_two ⟨_, _, Try.underlying35, rfl, rfl, rfl, rfl⟩ g3
  obtain ⟨a6, a7, rfl, rfl, w6, w7⟩ := open_two ⟨_, _, Try.underlying35, rfl, rfl, rfl, rfl⟩ g4
  obtain ⟨a8, q8, _, w8⟩ := DataW.trod_string Try.underlying9 g5
  obtain ⟨a10, q10, _, w10⟩ := DataW.trod_int Try.underlying3 g7
  simp only [List.cons.injEq, and_true] at q3 q8 q10
  subst q3 q8 q10
  obtain ⟨ad, ld, cd, rfl⟩ : ∃ a l c, c2 = .slice a l c := by
    rcases Go.Deep.open_slice Try.underlying24 g1 with ⟨h0, _⟩ | ⟨ad, ln, cp, m, n, D, Pl, h0, _⟩
    · simp at h0; exact ⟨_, _, _, h0⟩
    · simp at h0; exact ⟨_, _, _, h0⟩
  obtain ⟨ag, lg, cg, rfl⟩ : ∃ a l c, c9 = .slice a l c := by
    rcases Go.Deep.open_slice Try.underlying36 g6 with ⟨h0, _⟩ | ⟨ad, ln, cp, m, n, D, Pl, h0, _⟩
    · simp at h0; exact ⟨_, _, _, h0⟩
    · simp at h0; exact ⟨_, _, _, h0⟩
  obtain ⟨l, h1, rfl, h3, h4⟩ := open_dots g1
  obtain ⟨g, k1, rfl, k3, k4⟩ := open_runs g6
  unfold maxLen at h3 k3 w8
  exact ⟨(⟨a0, a1, l, a3, a4, a5, a6, a7, a8, g, a10⟩, .slice ad l.length cd, .slice ag g.length cg), rfl, ⟨_, _, rfl⟩, ⟨_, _, rfl⟩, h1, k1, ⟨w0, w1, wf64 w3, w4, w5, w6, w7, wf64 w10, k4, w8⟩⟩


/-- a step whose lists lie somewhere -/
structure StW (W : World) (s : Stp) : Prop where
  f : StF s
  rd : RI W s.vd s.op.deps
  rg : RR W s.vg s.op.gone
  rv : RI W s.vv s.vec
  inn : InA s.op
  kin : in64 s.kind
theorem StW.below {W W' : World} {s : Stp} (h : StW W s) (hb : Below W.heap.size W W') : StW W' s := ⟨h.f, h.rd.below hb, RC.below h.rg hb, h.rv.below hb, h.inn, h.kin⟩

set_option maxRecDepth 100000 in
theorem open_stepL {H : Type} {enc : TypeId × Value → H} {w : World} {base : Nat} {spare : Nat → Bool} {held : Bool} {fuel : Nat} {k c0 c1 c2 c3 c4 c5 c6 c7 c8 c9 c10 u : Value} {x : DataW H × List MemPlace}
    (hf : DataW.trod enc Try.prog w base spare held fuel 40 [k, c0, c1, c2, c3, c4, c5, c6, c7, c8, c9, c10, u] = some x) : ∃ s, [k, c0, c1, c2, c3, c4, c5, c6, c7, c8, c9, c10, u] = encS s ∧ StW w s := by
  obtain ⟨xs, n, _, _, _, hxl, hfs⟩ := DataW.trod_struct Try.underlying40 hf
  have hx : ∀ i, i < 3 → ∃ y, xs[i]? = some y := fun i hi => ⟨xs[i]'(by rw [hxl]; exact hi), List.getElem?_eq_getElem _⟩
  have ci : Try.prog.cellsOf 3 = 1 := by kernel_rfl
  have cO : Try.prog.cellsOf 38 = 11 := by kernel_rfl
  have cV : Try.prog.cellsOf 24 = 1 := by kernel_rfl
  obtain ⟨y0, e0⟩ := hx 0 (by omega)
  have g0 := (hfs 0 _ rfl).trans e0
  obtain ⟨y1, e1⟩ := hx 1 (by omega)
  have g1 := (hfs 1 _ rfl).trans e1
  obtain ⟨y2, e2⟩ := hx 2 (by omega)
  have g2 := (hfs 2 _ rfl).trans e2
  simp at g0
  rw [ci] at g0
  try simp at g0
  simp at g1
  rw [cO] at g1
  try simp at g1
  simp at g2
  rw [cV] at g2
  try simp at g2
  obtain ⟨a0, q0, _, w0⟩ := DataW.trod_int Try.underlying3 g0
  simp only [List.cons.injEq, and_true] at q0
  subst q0
  obtain ⟨e, he, hw⟩ := open_opL g1
  obtain ⟨av, lv, cv, rfl⟩ : ∃ a l c, u = .slice a l c := by
    rcases Go.Deep.open_slice Try.underlying24 g2 with ⟨h0, _⟩ | ⟨ad, ln, cp, m, n, D, Pl, h0, _⟩
    · simp at h0; exact ⟨_, _, _, h0⟩
    · simp at h0; exact ⟨_, _, _, h0⟩
  obtain ⟨l, h1, rfl, h3, h4⟩ := open_dots g2
  refine ⟨⟨a0, e.1, l, e.2.1, e.2.2, .slice av l.length cv⟩, ?_, ⟨hw.vd, hw.vg, ⟨_, _, rfl⟩⟩, hw.rd, hw.rg, h1, hw.inn, wf64 w0⟩
  show _ :: ([c0, c1, c2, c3, c4, c5, c6, c7, c8, c9, c10] ++ [_]) = _
  rw [he]
  rfl

theorem open_steps {H : Type} {enc : TypeId × Value → H} {w : World} {base : Nat} {spare : Nat → Bool} {held : Bool} {fuel : Nat} {a : Option Addr} {len cap : Nat} {x : DataW H × List MemPlace}
    (h : DataW.trod enc Try.prog w base spare held fuel 22 [.slice a len cap] = some x) : ∃ l : List Stp, RC w (.slice a len cap) l.length (flat encS l) ∧ l.length = len ∧ len ≤ maxLen ∧ ∀ e ∈ l, StW w e := by
  rcases Go.Deep.open_slice Try.underlying22 h with ⟨h0, _⟩ | ⟨ad, ln, cp, m, n, D, Pl, h0, hb, hl, hm, hmm, _, hx⟩
  · simp only [List.cons.injEq, Value.slice.injEq, and_true] at h0
    obtain ⟨rfl, rfl, rfl⟩ := h0
    exact ⟨[], .inl ⟨rfl, _, _, rfl⟩, rfl, by unfold maxLen; omega, fun e he => by cases he⟩
  · simp only [List.cons.injEq, Value.slice.injEq, and_true] at h0
    obtain ⟨rfl, rfl, rfl⟩ := h0
    have hlm : len ≤ m := by rw [hmm]; split <;> omega
    obtain ⟨l, h1, h2, h3⟩ := @mk_each Stp ⟨⟨0, ⟨0, 0, [], 0, 0, 0, 0, 0, ByteArray.empty, [], 0⟩, [], .slice none 0 0, .slice none 0 0, .slice none 0 0⟩⟩ encS 13 encS_len (by omega) (StW w) w ad len cap hl (fun i hi => by
      obtain ⟨cs', h1, h2⟩ := hx i (by omega)
      have ce : Try.prog.cellsOf 40 = 13 := by kernel_rfl
      rw [ce] at h1
      obtain ⟨_, hlen, hcell⟩ := World.cells?_some h1
      match cs', hlen with
      | [v0, v1, v2, v3, v4, v5, v6, v7, v8, v9, v10, v11, v12], _ =>
        obtain ⟨e, he, hw⟩ := open_stepL h2
        refine ⟨e, fun q x hx => ?_, hw⟩
        rw [← he] at hx
        have hq := (List.getElem?_eq_some_iff.1 hx).1
        have := hcell q (by simpa using hq)
        rw [Go.Deep.add_add] at this
        rw [this]
        exact hx)
    exact ⟨l, by rw [← h2] at h1 ⊢; exact h1, h2, by omega, h3⟩

end Go.Proofs.Ytehmbbnmjiojgaa
