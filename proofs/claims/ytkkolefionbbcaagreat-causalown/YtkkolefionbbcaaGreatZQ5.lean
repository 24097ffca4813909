/-
  Arguments, opened: operations.
-/
import Derived.Test.YtkkolefionbbcaaGreatZOp
import Derived.Test.YtkkolefionbbcaaGreatZO0
set_option linter.unusedSimpArgs false
set_option linter.unusedVariables false
namespace Go.Proofs.YtkkolefionbbcaaGreat
open Go.RowKit Go.Lib

theorem open_runs {H : Type} {enc : TypeId × Value → H} {w : World} {base : Nat} {spare : Nat → Bool} {held : Bool} {fuel : Nat} {a : Option Addr} {len cap : Nat} {x : DataW H × List MemPlace}
    (h : DataW.trod enc Tryz.prog w base spare held fuel 40 [.slice a len cap] = some x) : ∃ l : List ((Int × Int) × Int), RR w (.slice a len cap) l ∧ l.length = len ∧ len ≤ maxLen ∧ ∀ e ∈ l, runIn e := by
  rcases Go.Deep.open_slice Tryz.underlying40 h with ⟨h0, _⟩ | ⟨ad, ln, cp, m, n, D, Pl, h0, hb, hl, hm, hmm, _, hx⟩
  · simp only [List.cons.injEq, Value.slice.injEq, and_true] at h0
    obtain ⟨rfl, rfl, rfl⟩ := h0
    exact ⟨[], .inl ⟨rfl, _, _, rfl⟩, rfl, by unfold maxLen; omega, fun e he => by cases he⟩
  · simp only [List.cons.injEq, Value.slice.injEq, and_true] at h0
    obtain ⟨rfl, rfl, rfl⟩ := h0
    have hlm : len ≤ m := by rw [hmm]; split <;> omega
    obtain ⟨l, h1, h2, h3⟩ := mk_each (enc := encR) encR_len (by omega) (Pr := runIn) (w := w) (ad := ad) (len := len) (cap := cap) hl (fun i hi => by
      obtain ⟨cs', h1, h2⟩ := hx i (by omega)
      have ce : Tryz.prog.cellsOf 72 = 3 := by kernel_rfl
      rw [ce] at h1
      obtain ⟨_, hlen, hcell⟩ := World.cells?_some h1
      have hu : ∃ f0 f1 : Field, Tryz.prog.underlying 72 = some (.struct #[f0, f1]) ∧ f0.offset = 0 ∧ f1.offset = 2 ∧ f0.type = 39 ∧ f1.type = 3 := ⟨_, _, Tryz.underlying72, rfl, rfl, rfl, rfl⟩
      obtain ⟨f0, f1, hu, o0, o1, t0, t1⟩ := hu
      obtain ⟨y0, y1, n', _, _, g0, g1⟩ := Go.ChangeShapes.trod_struct2 hu h2
      have hi2 : ∃ f0 f1 : Field, Tryz.prog.underlying 39 = some (.struct #[f0, f1]) ∧ f0.offset = 0 ∧ f1.offset = 1 ∧ f0.type = 3 ∧ f1.type = 3 := ⟨_, _, Tryz.underlying39, rfl, rfl, rfl, rfl⟩
      obtain ⟨f2, f3, hu2, o2, o3, t2, t3⟩ := hi2
      have ci : Tryz.prog.cellsOf 3 = 1 := by kernel_rfl
      have cd : Tryz.prog.cellsOf 39 = 2 := by kernel_rfl
      rw [o0, t0, cd] at g0
      rw [o1, t1, ci] at g1
      match cs', hlen with
      | [v0, v1, v2], _ =>
        simp at g0 g1
        obtain ⟨z0, z1, n2, _, _, k0, k1⟩ := Go.ChangeShapes.trod_struct2 hu2 g0
        rw [o2, t2, ci] at k0
        rw [o3, t3, ci] at k1
        simp at k0 k1
        obtain ⟨n0, e0, _, w0⟩ := DataW.trod_int Tryz.underlying3 k0
        obtain ⟨n1, e1, _, w1⟩ := DataW.trod_int Tryz.underlying3 k1
        obtain ⟨n2, e2, _, w2⟩ := DataW.trod_int Tryz.underlying3 g1
        simp at e0 e1 e2
        subst e0 e1 e2
        have q0 := hcell 0 (by omega)
        have q1 := hcell 1 (by omega)
        have q2 := hcell 2 (by omega)
        rw [Go.Deep.add_add] at q0 q1 q2
        refine ⟨((n0, n1), n2), fun q x hx => ?_, ⟨wf64 w0, wf64 w1⟩, wf64 w2⟩
        match q, hx with
        | 0, hx => simp [encR] at hx; subst hx; simpa using q0
        | 1, hx => simp [encR] at hx; subst hx; simpa using q1
        | 2, hx => simp [encR] at hx; subst hx; simpa using q2
        | q + 3, hx => simp [encR] at hx)
    exact ⟨l, by rw [← h2] at h1 ⊢; exact h1, h2, by omega, h3⟩


/-- an argument's numbers are those of Go's ints -/
structure InA (o : Opn) : Prop where
  ds : in64 o.ds
  dq : in64 o.dq
  kind : in64 o.kind
  it : in64 o.it
  is : in64 o.is
  rt : in64 o.rt
  rs : in64 o.rs
  site : in64 o.site
  gone : ∀ r ∈ o.gone, runIn r
  text : o.text.size ≤ 9223372036854775807
theorem InA.fit {o : Opn} (h : InA o) (h1 : o.deps.length ≤ 140737488355328) (h2 : o.text.size ≤ 140737488355328) (h3 : o.gone.length ≤ 140737488355328) : InO o :=
  ⟨h.ds, h.dq, h.kind, h.it, h.is, h.rt, h.rs, h.site, h1, h2, h.gone, h3⟩

theorem array11 {α : Type} {cs : Array α} (h : cs.size = 11) : ∃ c0 c1 c2 c3 c4 c5 c6 c7 c8 c9 c10, cs = #[c0, c1, c2, c3, c4, c5, c6, c7, c8, c9, c10] := by
  obtain ⟨l⟩ := cs
  match l, h with
  | [c0, c1, c2, c3, c4, c5, c6, c7, c8, c9, c10], _ => exact ⟨c0, c1, c2, c3, c4, c5, c6, c7, c8, c9, c10, rfl⟩

theorem open_two {H : Type} {enc : TypeId × Value → H} {w : World} {base : Nat} {spare : Nat → Bool} {held : Bool} {fuel : Nat} {t : TypeId} {c0 c1 : Value} {x : DataW H × List MemPlace} (hu : ∃ f0 f1 : Field, Tryz.prog.underlying t = some (.struct #[f0, f1]) ∧ f0.offset = 0 ∧ f1.offset = 1 ∧ f0.type = 3 ∧ f1.type = 3)
    (h : DataW.trod enc Tryz.prog w base spare held fuel t [c0, c1] = some x) : ∃ n0 n1, c0 = .int .i64 n0 ∧ c1 = .int .i64 n1 ∧ in64 n0 ∧ in64 n1 := by
  obtain ⟨f0, f1, hu, o0, o1, t0, t1⟩ := hu
  obtain ⟨y0, y1, n', _, _, g0, g1⟩ := Go.ChangeShapes.trod_struct2 hu h
  have ci : Tryz.prog.cellsOf 3 = 1 := by kernel_rfl
  rw [o0, t0, ci] at g0
  rw [o1, t1, ci] at g1
  simp at g0 g1
  obtain ⟨n0, e0, _, w0⟩ := DataW.trod_int Tryz.underlying3 g0
  obtain ⟨n1, e1, _, w1⟩ := DataW.trod_int Tryz.underlying3 g1
  simp at e0 e1
  exact ⟨n0, n1, e0, e1, wf64 w0, wf64 w1⟩

set_option maxRecDepth 100000 in
theorem open_op {H : Type} {enc : TypeId × Value → H} {w : World} {base b0 : Nat} {spare : Nat → Bool} {held : Bool} {r : Reach} {v : Value} {d : DataW H} {p : List MemPlace}
    (hv : Value.okWide Tryz.prog w r b0 42 v) (h : DataW.Trod enc Tryz.prog w base spare held 42 v d p) :
    ∃ (o : Opn) (ad ag : Option Addr) (cd cg : Nat), v = opA o (.slice ad o.deps.length cd) (.slice ag o.gone.length cg) ∧ RI w (.slice ad o.deps.length cd) o.deps ∧ RR w (.slice ag o.gone.length cg) o.gone ∧ InA o := by
  obtain ⟨cs, rfl, hsz⟩ := Go.WideShapes.okWide_struct Tryz.underlying42 hv
  have hC : Tryz.prog.cellsOf 42 = 11 := by kernel_rfl
  obtain ⟨c0, c1, c2, c3, c4, c5, c6, c7, c8, c9, c10, rfl⟩ := array11 (hsz.trans hC)
  obtain ⟨fuel, hf⟩ := h
  obtain ⟨xs, n, _, _, _, hxl, hfs⟩ := DataW.trod_struct Tryz.underlying42 hf
  have hx : ∀ i, i < 8 → ∃ y, xs[i]? = some y := fun i hi => ⟨xs[i]'(by rw [hxl]; exact hi), List.getElem?_eq_getElem _⟩
  have ci : Tryz.prog.cellsOf 3 = 1 := by kernel_rfl
  have cD : Tryz.prog.cellsOf 28 = 2 := by kernel_rfl
  have cI : Tryz.prog.cellsOf 39 = 2 := by kernel_rfl
  have cV : Tryz.prog.cellsOf 23 = 1 := by kernel_rfl
  have cS : Tryz.prog.cellsOf 9 = 1 := by kernel_rfl
  have cR : Tryz.prog.cellsOf 40 = 1 := by kernel_rfl
  obtain ⟨y0, e0⟩ := hx 0 (by omega)
  have g0 := (hfs 0 _ rfl).trans e0
  obtain ⟨y1, e1⟩ := hx 1 (by omega)
  have g1 := (hfs 1 _ rfl).trans e1
  obtain ⟨y2, e2⟩ := hx 2 (by omega)
  have g2 := (hfs 2 _ rfl).trans e2
  obtain ⟨y3, e3⟩ := hx 3 (by omega)
  have g3 := (hfs 3 _ rfl).trans e3
  obtain ⟨y4, e4⟩ := hx 4 (by omega)
  have g4 := (hfs 4 _ rfl).trans e4
  obtain ⟨y5, e5⟩ := hx 5 (by omega)
  have g5 := (hfs 5 _ rfl).trans e5
  obtain ⟨y6, e6⟩ := hx 6 (by omega)
  have g6 := (hfs 6 _ rfl).trans e6
  obtain ⟨y7, e7⟩ := hx 7 (by omega)
  have g7 := (hfs 7 _ rfl).trans e7
  simp [Value.cells] at g0
  rw [cD] at g0
  try simp at g0
  simp [Value.cells] at g1
  rw [cV] at g1
  try simp at g1
  simp [Value.cells] at g2
  rw [ci] at g2
  try simp at g2
  simp [Value.cells] at g3
  rw [cI] at g3
  try simp at g3
  simp [Value.cells] at g4
  rw [cI] at g4
  try simp at g4
  simp [Value.cells] at g5
  rw [cS] at g5
  try simp at g5
  simp [Value.cells] at g6
  rw [cR] at g6
  try simp at g6
  simp [Value.cells] at g7
  rw [ci] at g7
  try simp at g7
  obtain ⟨a0, a1, rfl, rfl, w0, w1⟩ := open_two ⟨_, _, Tryz.underlying28, rfl, rfl, rfl, rfl⟩ g0
  obtain ⟨a3, q3, _, w3⟩ := DataW.trod_int Tryz.underlying3 g2
  obtain ⟨a4, a5, rfl, rfl, w4, w5⟩ := open_two ⟨_, _, Tryz.underlying39, rfl, rfl, rfl, rfl⟩ g3
  obtain ⟨a6, a7, rfl, rfl, w6, w7⟩ := open_two ⟨_, _, Tryz.underlying39, rfl, rfl, rfl, rfl⟩ g4
  obtain ⟨a8, q8, _, w8⟩ := DataW.trod_string Tryz.underlying9 g5
  obtain ⟨a10, q10, _, w10⟩ := DataW.trod_int Tryz.underlying3 g7
  simp only [List.cons.injEq, and_true] at q3 q8 q10
  subst q3 q8 q10
  obtain ⟨ad, ld, cd, rfl⟩ : ∃ a l c, c2 = .slice a l c := by
    rcases Go.Deep.open_slice Tryz.underlying23 g1 with ⟨h0, _⟩ | ⟨ad, ln, cp, m, n, D, Pl, h0, _⟩
    · simp at h0; exact ⟨_, _, _, h0⟩
    · simp at h0; exact ⟨_, _, _, h0⟩
  obtain ⟨ag, lg, cg, rfl⟩ : ∃ a l c, c9 = .slice a l c := by
    rcases Go.Deep.open_slice Tryz.underlying40 g6 with ⟨h0, _⟩ | ⟨ad, ln, cp, m, n, D, Pl, h0, _⟩
    · simp at h0; exact ⟨_, _, _, h0⟩
    · simp at h0; exact ⟨_, _, _, h0⟩
  obtain ⟨l, h1, rfl, h3, h4⟩ := open_dots g1
  obtain ⟨g, k1, rfl, k3, k4⟩ := open_runs g6
  unfold maxLen at h3 k3 w8
  exact ⟨⟨a0, a1, l, a3, a4, a5, a6, a7, a8, g, a10⟩, ad, ag, cd, cg, rfl, h1, k1, ⟨w0, w1, wf64 w3, w4, w5, w6, w7, wf64 w10, k4, w8⟩⟩

end Go.Proofs.YtkkolefionbbcaaGreat
