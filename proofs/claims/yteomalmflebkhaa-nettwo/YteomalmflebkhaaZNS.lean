/-
  The law's scripts, opened.
-/
import Derived.Test.YteomalmflebkhaaZNB
import Derived.Deep.Slices
import Derived.OpenShut
import Derived.ChangeSame
import Derived.ChangeArms
set_option linter.unusedSimpArgs false
set_option linter.unusedVariables false
namespace Go.Proofs.Yteomalmflebkhaa
open Go.RowKit Go.Lib

theorem wf64' {n : Int} (h : (Lit.int .i64 n).wf = true) : -9223372036854775808 ≤ n ∧ n ≤ 9223372036854775807 := by
  simp [Lit.wf, IntKind.min, IntKind.max, IntKind.bits, IntKind.signed] at h
  omega
theorem mk_each {α : Type} [Inhabited α] {enc : α → List Value} {k : Nat} (hk : ∀ x, (enc x).length = k) (k0 : 0 < k) {Pr : α → Prop} {w : World} {ad : Addr} {len cap : Nat} (hlc : len ≤ cap)
    (each : ∀ i, i < len → ∃ e : α, (∀ q x, (enc e)[q]? = some x → w.cell? (ad.add (i * k + q)) = some x) ∧ Pr e) : ∃ l : List α, RC w (.slice (some ad) len cap) l.length (flat enc l) ∧ l.length = len ∧ ∀ e ∈ l, Pr e := by
  obtain ⟨q, hq⟩ := Go.Deep.choose_lt each
  have hll : ((List.range len).map q).length = len := by simp
  refine ⟨(List.range len).map q, ?_, hll, fun e he => ?_⟩
  · by_cases h0 : len = 0
    · subst h0; exact .inl ⟨by simp, _, _, rfl⟩
    · obtain ⟨b, off, spot⟩ := ad
      have h00 : ∃ x, (enc (q 0))[0]? = some x := ⟨(enc (q 0))[0]'(by rw [hk]; exact k0), List.getElem?_eq_getElem _⟩
      obtain ⟨x0, hx0⟩ := h00
      have hc0 := (hq 0 (by omega)).1 0 x0 hx0
      have hspot : spot = none := by simpa [Addr.add] using World.cell?_spot hc0
      subst hspot
      rw [Go.WideShapes.add_plain] at hc0
      rw [hll]
      refine .inr ⟨b, off, cap, rfl, hlc, cell_lt hc0, fun j x hx => ?_⟩
      obtain ⟨e, he1, he2⟩ := flat_at hk k0 hx
      have hj : j / k < len := by have := (List.getElem?_eq_some_iff.1 he1).1; rwa [hll] at this
      have hje : q (j / k) = e := by
        rw [List.getElem?_map, List.getElem?_range hj] at he1
        simpa using he1
      have := (hq (j / k) hj).1 (j % k) x (by rw [hje]; exact he2)
      rw [Go.WideShapes.add_plain, show j / k * k + j % k = j by have := Nat.div_add_mod j k; rw [Nat.mul_comm] at this; exact this] at this
      exact this
  · obtain ⟨j, hj, rfl⟩ := List.mem_map.1 he
    exact (hq j (List.mem_range.1 hj)).2


theorem flat_bytes (l : List Int) : flat (fun x : Int => [Value.int .u8 x]) l = bC l := by
  unfold flat bC
  induction l with
  | nil => rfl
  | cons x l ih => rw [List.flatMap_cons, ih]; rfl
theorem open_bytes {H : Type} {enc : TypeId × Value → H} {w : World} {base : Nat} {spare : Nat → Bool} {held : Bool} {fuel : Nat} {a : Option Addr} {len cap : Nat} {x : DataW H × List MemPlace}
    (h : DataW.trod enc Try.prog w base spare held fuel 30 [.slice a len cap] = some x) : ∃ l : List Int, RB w (.slice a len cap) l ∧ l.length = len ∧ len ≤ maxLen ∧ ∀ e ∈ l, (fun _ : Int => True) e := by
  rcases Go.Deep.open_slice Try.underlying30 h with ⟨h0, _⟩ | ⟨ad, ln, cp, m, n, D, Pl, h0, hb, hl, hm, hmm, _, hx⟩
  · simp only [List.cons.injEq, Value.slice.injEq, and_true] at h0
    obtain ⟨rfl, rfl, rfl⟩ := h0
    exact ⟨[], .inl ⟨rfl, _, _, rfl⟩, rfl, by unfold maxLen; omega, fun e he => by cases he⟩
  · simp only [List.cons.injEq, Value.slice.injEq, and_true] at h0
    obtain ⟨rfl, rfl, rfl⟩ := h0
    have hlm : len ≤ m := by rw [hmm]; split <;> omega
    obtain ⟨l, h1, h2, h3⟩ := mk_each (enc := fun x : Int => [Value.int .u8 x]) (k := 1) (fun _ => rfl) (by omega) (Pr := fun _ => True) (w := w) (ad := ad) (len := len) (cap := cap) hl (fun i hi => by
      obtain ⟨cs', h1, h2⟩ := hx i (by omega)
      have ce : Try.prog.cellsOf 5 = 1 := by kernel_rfl
      rw [ce] at h1
      obtain ⟨_, hlen, hcell⟩ := World.cells?_some h1
      match cs', hlen with
      | [v0], _ =>
        obtain ⟨n0, e0, _, w0⟩ := DataW.trod_int Try.underlying5 h2
        simp at e0
        subst e0
        have q0 := hcell 0 (by omega)
        rw [Go.Deep.add_add] at q0
        refine ⟨n0, fun q x hx => ?_, trivial⟩
        match q, hx with
        | 0, hx => simp at hx; subst hx; simpa using q0
        | q + 1, hx => simp at hx)
    rw [flat_bytes] at h1
    exact ⟨l, by rw [← h2] at h1 ⊢; exact h1, h2, by omega, h3⟩

/-- a step: its kind, its numbers, its bytes -/
structure Stp where
  kind : Int
  num : Int
  frm : Int
  to : Int
  at_ : Int
  dat : List Int
  vd : Value
def encS (s : Stp) : List Value := [.int .i64 s.kind, .int .i64 s.num, .int .i64 s.frm, .int .i64 s.to, .int .i64 s.at_, s.vd]
theorem encS_len (s : Stp) : (encS s).length = 6 := rfl
def stC (s : Stp) : Array Value := #[.int .i64 s.kind, .int .i64 s.num, .int .i64 s.frm, .int .i64 s.to, .int .i64 s.at_, s.vd]
def in6 (n : Int) : Prop := -9223372036854775808 ≤ n ∧ n ≤ 9223372036854775807
/-- a step whose bytes lie somewhere -/
structure StW (W : World) (s : Stp) : Prop where
  fd : ∃ a c, s.vd = .slice a s.dat.length c
  rd : RB W s.vd s.dat
  kin : in6 s.kind
  num : in6 s.num
  frm : in6 s.frm
  to : in6 s.to
  at_ : in6 s.at_
  ln : s.dat.length ≤ 9223372036854775807
theorem StW.below {W W' : World} {s : Stp} (h : StW W s) (hb : Below W.heap.size W W') : StW W' s := ⟨h.fd, h.rd.below hb, h.kin, h.num, h.frm, h.to, h.at_, h.ln⟩
def RSt (W : World) (v : Value) (l : List Stp) : Prop := RC W v l.length (flat encS l)
theorem RSt.below {W W' : World} {v : Value} {l : List Stp} (h : RSt W v l) (hb : Below W.heap.size W W') : RSt W' v l := RC.below h hb
theorem RSt.at {W : World} {a : Option Addr} {n c : Nat} {l : List Stp} (h : RSt W (.slice a n c) l) {i : Nat} {e : Stp} (hi : l[i]? = some e) : ∃ b off, a = some ⟨b, off, none⟩ ∧ b < W.heap.size ∧ W.cell? ⟨b, off + i * 6, none⟩ = some (.int .i64 e.kind) ∧ W.cell? ⟨b, off + i * 6 + 1, none⟩ = some (.int .i64 e.num) ∧ W.cell? ⟨b, off + i * 6 + 2, none⟩ = some (.int .i64 e.frm) ∧ W.cell? ⟨b, off + i * 6 + 3, none⟩ = some (.int .i64 e.to) ∧ W.cell? ⟨b, off + i * 6 + 4, none⟩ = some (.int .i64 e.at_) ∧ W.cell? ⟨b, off + i * 6 + 5, none⟩ = some e.vd := by
  have hl := (List.getElem?_eq_some_iff.1 hi).1
  rcases h with ⟨h0, _⟩ | ⟨b, off, cap, e', h1, h2, hc⟩
  · omega
  · simp at e'
    obtain ⟨rfl, _⟩ := e'
    have f := fun q (hq : q < 6) v (hv : (encS e)[q]? = some v) => hc (i * 6 + q) v ((flat_get encS_len l i q e hi hq).trans hv)
    exact ⟨b, off, rfl, h2, f 0 (by omega) _ rfl, f 1 (by omega) _ rfl, f 2 (by omega) _ rfl, f 3 (by omega) _ rfl, f 4 (by omega) _ rfl, f 5 (by omega) _ rfl⟩
set_option maxRecDepth 100000 in
theorem open_stepL {H : Type} {enc : TypeId × Value → H} {w : World} {base : Nat} {spare : Nat → Bool} {held : Bool} {fuel : Nat} {c0 c1 c2 c3 c4 c5 : Value} {x : DataW H × List MemPlace}
    (hf : DataW.trod enc Try.prog w base spare held fuel 32 [c0, c1, c2, c3, c4, c5] = some x) : ∃ s, [c0, c1, c2, c3, c4, c5] = encS s ∧ StW w s := by
  obtain ⟨xs, n, _, _, _, hxl, hfs⟩ := DataW.trod_struct Try.underlying32 hf
  have hx : ∀ i, i < 6 → ∃ y, xs[i]? = some y := fun i hi => ⟨xs[i]'(by rw [hxl]; exact hi), List.getElem?_eq_getElem _⟩
  have ci : Try.prog.cellsOf 3 = 1 := by kernel_rfl
  have cB : Try.prog.cellsOf 30 = 1 := by kernel_rfl
  obtain ⟨y0, e0⟩ := hx 0 (by omega)
  have g0 := (hfs 0 _ rfl).trans e0
  obtain ⟨y1, e1⟩ := hx 1 (by omega)
  have g1 := (hfs 1 _ rfl).trans e1
  obtain ⟨y2, e2⟩ := hx 2 (by omega)
  have g2 := (hfs 2 _ rfl).trans e2
  obtain ⟨y3, e3⟩ := hx 3 (by omega)
  have g3 := (hfs 3 _ rfl).trans e3
  obtain ⟨y4, e4⟩ := hx 4 (by omega)
  have g4 := (hfs 4 _ rfl).trans e4
  obtain ⟨y5, e5⟩ := hx 5 (by omega)
  have g5 := (hfs 5 _ rfl).trans e5
  simp at g0
  rw [ci] at g0
  try simp at g0
  simp at g1
  rw [ci] at g1
  try simp at g1
  simp at g2
  rw [ci] at g2
  try simp at g2
  simp at g3
  rw [ci] at g3
  try simp at g3
  simp at g4
  rw [ci] at g4
  try simp at g4
  simp at g5
  rw [cB] at g5
  try simp at g5
  obtain ⟨a0, q0, _, w0⟩ := DataW.trod_int Try.underlying3 g0
  obtain ⟨a1, q1, _, w1⟩ := DataW.trod_int Try.underlying3 g1
  obtain ⟨a2, q2, _, w2⟩ := DataW.trod_int Try.underlying3 g2
  obtain ⟨a3, q3, _, w3⟩ := DataW.trod_int Try.underlying3 g3
  obtain ⟨a4, q4, _, w4⟩ := DataW.trod_int Try.underlying3 g4
  simp only [List.cons.injEq, and_true] at q0 q1 q2 q3 q4
  subst q0 q1 q2 q3 q4
  obtain ⟨av, lv, cv, rfl⟩ : ∃ a l c, c5 = .slice a l c := by
    rcases Go.Deep.open_slice Try.underlying30 g5 with ⟨h0, _⟩ | ⟨ad, ln, cp, m, n, D, Pl, h0, _⟩
    · simp at h0; exact ⟨_, _, _, h0⟩
    · simp at h0; exact ⟨_, _, _, h0⟩
  obtain ⟨l, h1, rfl, h3, _⟩ := open_bytes g5
  unfold maxLen at h3
  exact ⟨⟨a0, a1, a2, a3, a4, l, .slice av l.length cv⟩, rfl, ⟨_, _, rfl⟩, h1, wf64' w0, wf64' w1, wf64' w2, wf64' w3, wf64' w4, by show l.length ≤ _; omega⟩
theorem open_steps {H : Type} {enc : TypeId × Value → H} {w : World} {base : Nat} {spare : Nat → Bool} {held : Bool} {fuel : Nat} {a : Option Addr} {len cap : Nat} {x : DataW H × List MemPlace}
    (h : DataW.trod enc Try.prog w base spare held fuel 22 [.slice a len cap] = some x) : ∃ l : List Stp, RSt w (.slice a len cap) l ∧ l.length = len ∧ len ≤ maxLen ∧ ∀ e ∈ l, StW w e := by
  rcases Go.Deep.open_slice Try.underlying22 h with ⟨h0, _⟩ | ⟨ad, ln, cp, m, n, D, Pl, h0, hb, hl, hm, hmm, _, hx⟩
  · simp only [List.cons.injEq, Value.slice.injEq, and_true] at h0
    obtain ⟨rfl, rfl, rfl⟩ := h0
    exact ⟨[], .inl ⟨rfl, _, _, rfl⟩, rfl, by unfold maxLen; omega, fun e he => by cases he⟩
  · simp only [List.cons.injEq, Value.slice.injEq, and_true] at h0
    obtain ⟨rfl, rfl, rfl⟩ := h0
    have hlm : len ≤ m := by rw [hmm]; split <;> omega
    obtain ⟨l, h1, h2, h3⟩ := @mk_each Stp ⟨⟨0, 0, 0, 0, 0, [], .slice none 0 0⟩⟩ encS 6 encS_len (by omega) (StW w) w ad len cap hl (fun i hi => by
      obtain ⟨cs', h1, h2⟩ := hx i (by omega)
      have ce : Try.prog.cellsOf 32 = 6 := by kernel_rfl
      rw [ce] at h1
      obtain ⟨_, hlen, hcell⟩ := World.cells?_some h1
      match cs', hlen with
      | [v0, v1, v2, v3, v4, v5], _ =>
        obtain ⟨e, he, hw⟩ := open_stepL h2
        refine ⟨e, fun q x hx => ?_, hw⟩
        rw [← he] at hx
        have hq := (List.getElem?_eq_some_iff.1 hx).1
        have := hcell q (by simpa using hq)
        rw [Go.Deep.add_add] at this
        rw [this]
        exact hx)
    exact ⟨l, by rw [← h2] at h1 ⊢; exact h1, h2, by omega, h3⟩
theorem array6 {cs : Array Value} (h : cs.size = 6) : ∃ c0 c1 c2 c3 c4 c5, cs = #[c0, c1, c2, c3, c4, c5] := by
  obtain ⟨l⟩ := cs
  match l, h with
  | [c0, c1, c2, c3, c4, c5], _ => exact ⟨c0, c1, c2, c3, c4, c5, rfl⟩
set_option maxRecDepth 100000 in
theorem open_step {H : Type} {enc : TypeId × Value → H} {w : World} {base b0 : Nat} {spare : Nat → Bool} {held : Bool} {r : Reach} {v : Value} {d : DataW H} {p : List MemPlace}
    (hv : Value.okWide Try.prog w r b0 32 v) (h : DataW.Trod enc Try.prog w base spare held 32 v d p) : ∃ s : Stp, v = .agg (stC s) ∧ StW w s := by
  obtain ⟨cs, rfl, hsz⟩ := Go.WideShapes.okWide_struct Try.underlying32 hv
  have hC : Try.prog.cellsOf 32 = 6 := by kernel_rfl
  obtain ⟨c0, c1, c2, c3, c4, c5, rfl⟩ := array6 (hsz.trans hC)
  obtain ⟨fuel, hf⟩ := h
  have hf' : DataW.trod enc Try.prog w base spare held fuel 32 [c0, c1, c2, c3, c4, c5] = some (d, p) := by simpa [Value.cells] using hf
  obtain ⟨s, he, hw⟩ := open_stepL hf'
  refine ⟨s, ?_, hw⟩
  unfold encS at he
  simp only [List.cons.injEq, and_true] at he
  obtain ⟨rfl, rfl, rfl, rfl, rfl, rfl⟩ := he
  rfl

end Go.Proofs.Yteomalmflebkhaa
