/-
  The law's scripts, opened.
-/
import Derived.Test.YtiekholaheddhaaZPH
import Derived.Deep.Slices
import Derived.OpenShut
import Derived.ChangeSame
import Derived.ChangeArms
set_option linter.unusedSimpArgs false
set_option linter.unusedVariables false
namespace Go.Proofs.Ytiekholaheddhaa
open Go.RowKit Go.Lib

def in64 (n : Int) : Prop := -9223372036854775808 ≤ n ∧ n ≤ 9223372036854775807
theorem wf64 {n : Int} (h : (Lit.int .i64 n).wf = true) : in64 n := by
  simp [Lit.wf, IntKind.min, IntKind.max, IntKind.bits, IntKind.signed] at h
  unfold in64
  omega
theorem mk_each {α : Type} [Inhabited α] {enc : α → List Value} {k : Nat} (hk : ∀ x, (enc x).length = k) (k0 : 0 < k) {Pr : α → Prop} {w : World} {ad : Addr} {len cap : Nat} (hlc : len ≤ cap)
    (each : ∀ i, i < len → ∃ e : α, (∀ q x, (enc e)[q]? = some x → w.cell? (ad.add (i * k + q)) = some x) ∧ Pr e) : ∃ l : List α, RC w (.slice (some ad) len cap) l.length (flat enc l) ∧ l.length = len ∧ ∀ e ∈ l, Pr e := by
  obtain ⟨q, hq⟩ := Go.Deep.choose_lt each
  have hll : ((List.range len).map q).length = len := by simp
  refine ⟨(List.range len).map q, ?_, hll, fun e he => ?_⟩
  · by_cases h0 : len = 0
    · subst h0; exact .inl ⟨by simp, _, _, rfl⟩
    · obtain ⟨b, off, spot⟩ := ad
      have h00 : ∃ x, (enc (q 0))[0]? = some x := ⟨(enc (q 0))[0]'(by rw [hk]; exact k0), List.getElem?_eq_getElem _⟩
      obtain ⟨x0, hx0⟩ := h00
      have hc0 := (hq 0 (by omega)).1 0 x0 hx0
      have hspot : spot = none := by simpa [Addr.add] using World.cell?_spot hc0
      subst hspot
      rw [Go.WideShapes.add_plain] at hc0
      rw [hll]
      refine .inr ⟨b, off, cap, rfl, hlc, cell_lt hc0, fun j x hx => ?_⟩
      obtain ⟨e, he1, he2⟩ := flat_at hk k0 hx
      have hj : j / k < len := by have := (List.getElem?_eq_some_iff.1 he1).1; rwa [hll] at this
      have hje : q (j / k) = e := by
        rw [List.getElem?_map, List.getElem?_range hj] at he1
        simpa using he1
      have := (hq (j / k) hj).1 (j % k) x (by rw [hje]; exact he2)
      rw [Go.WideShapes.add_plain, show j / k * k + j % k = j by have := Nat.div_add_mod j k; rw [Nat.mul_comm] at this; exact this] at this
      exact this
  · obtain ⟨j, hj, rfl⟩ := List.mem_map.1 he
    exact (hq j (List.mem_range.1 hj)).2

def encS (s : Stp) : List Value := [.int .i64 s.kind, .int .i64 s.num, .int .i64 s.got, .int .i64 s.crd]
theorem encS_len (s : Stp) : (encS s).length = 4 := rfl
/-- a step whose numbers are ints -/
structure StW (s : Stp) : Prop where
  kin : in64 s.kind
  num : in64 s.num
  got : in64 s.got
  crd : in64 s.crd
def RSt (W : World) (v : Value) (l : List Stp) : Prop := RC W v l.length (flat encS l)
theorem RSt.below {W W' : World} {v : Value} {l : List Stp} (h : RSt W v l) (hb : Below W.heap.size W W') : RSt W' v l := RC.below h hb
theorem RSt.at {W : World} {a : Option Addr} {n c : Nat} {l : List Stp} (h : RSt W (.slice a n c) l) {i : Nat} {e : Stp} (hi : l[i]? = some e) : ∃ b off, a = some ⟨b, off, none⟩ ∧ b < W.heap.size ∧ W.cell? ⟨b, off + i * 4, none⟩ = some (.int .i64 e.kind) ∧ W.cell? ⟨b, off + i * 4 + 1, none⟩ = some (.int .i64 e.num) ∧ W.cell? ⟨b, off + i * 4 + 2, none⟩ = some (.int .i64 e.got) ∧ W.cell? ⟨b, off + i * 4 + 3, none⟩ = some (.int .i64 e.crd) := by
  have hl := (List.getElem?_eq_some_iff.1 hi).1
  rcases h with ⟨h0, _⟩ | ⟨b, off, cap, e', h1, h2, hc⟩
  · omega
  · simp at e'
    obtain ⟨rfl, _⟩ := e'
    have f := fun q (hq : q < 4) v (hv : (encS e)[q]? = some v) => hc (i * 4 + q) v ((flat_get encS_len l i q e hi hq).trans hv)
    exact ⟨b, off, rfl, h2, f 0 (by omega) _ rfl, f 1 (by omega) _ rfl, f 2 (by omega) _ rfl, f 3 (by omega) _ rfl⟩
set_option maxRecDepth 100000 in
theorem open_stepL {H : Type} {enc : TypeId × Value → H} {w : World} {base : Nat} {spare : Nat → Bool} {held : Bool} {fuel : Nat} {c0 c1 c2 c3 : Value} {x : DataW H × List MemPlace}
    (hf : DataW.trod enc Try.prog w base spare held fuel 31 [c0, c1, c2, c3] = some x) : ∃ s, [c0, c1, c2, c3] = encS s ∧ StW s := by
  obtain ⟨xs, n, _, _, _, hxl, hfs⟩ := DataW.trod_struct Try.underlying31 hf
  have hx : ∀ i, i < 4 → ∃ y, xs[i]? = some y := fun i hi => ⟨xs[i]'(by rw [hxl]; exact hi), List.getElem?_eq_getElem _⟩
  have ci : Try.prog.cellsOf 3 = 1 := by kernel_rfl
  obtain ⟨y0, e0⟩ := hx 0 (by omega)
  have g0 := (hfs 0 _ rfl).trans e0
  obtain ⟨y1, e1⟩ := hx 1 (by omega)
  have g1 := (hfs 1 _ rfl).trans e1
  obtain ⟨y2, e2⟩ := hx 2 (by omega)
  have g2 := (hfs 2 _ rfl).trans e2
  obtain ⟨y3, e3⟩ := hx 3 (by omega)
  have g3 := (hfs 3 _ rfl).trans e3
  simp at g0
  rw [ci] at g0
  try simp at g0
  simp at g1
  rw [ci] at g1
  try simp at g1
  simp at g2
  rw [ci] at g2
  try simp at g2
  simp at g3
  rw [ci] at g3
  try simp at g3
  obtain ⟨a0, q0, _, w0⟩ := DataW.trod_int Try.underlying3 g0
  obtain ⟨a1, q1, _, w1⟩ := DataW.trod_int Try.underlying3 g1
  obtain ⟨a2, q2, _, w2⟩ := DataW.trod_int Try.underlying3 g2
  obtain ⟨a3, q3, _, w3⟩ := DataW.trod_int Try.underlying3 g3
  simp only [List.cons.injEq, and_true] at q0 q1 q2 q3
  subst q0 q1 q2 q3
  exact ⟨⟨a0, a1, a2, a3⟩, rfl, wf64 w0, wf64 w1, wf64 w2, wf64 w3⟩
theorem open_steps {H : Type} {enc : TypeId × Value → H} {w : World} {base : Nat} {spare : Nat → Bool} {held : Bool} {fuel : Nat} {a : Option Addr} {len cap : Nat} {x : DataW H × List MemPlace}
    (h : DataW.trod enc Try.prog w base spare held fuel 34 [.slice a len cap] = some x) : ∃ l : List Stp, RSt w (.slice a len cap) l ∧ l.length = len ∧ len ≤ maxLen ∧ ∀ e ∈ l, StW e := by
  rcases Go.Deep.open_slice Try.underlying34 h with ⟨h0, _⟩ | ⟨ad, ln, cp, m, n, D, Pl, h0, hb, hl, hm, hmm, _, hx⟩
  · simp only [List.cons.injEq, Value.slice.injEq, and_true] at h0
    obtain ⟨rfl, rfl, rfl⟩ := h0
    exact ⟨[], .inl ⟨rfl, _, _, rfl⟩, rfl, by unfold maxLen; omega, fun e he => by cases he⟩
  · simp only [List.cons.injEq, Value.slice.injEq, and_true] at h0
    obtain ⟨rfl, rfl, rfl⟩ := h0
    have hlm : len ≤ m := by rw [hmm]; split <;> omega
    obtain ⟨l, h1, h2, h3⟩ := @mk_each Stp ⟨⟨0, 0, 0, 0⟩⟩ encS 4 encS_len (by omega) StW w ad len cap hl (fun i hi => by
      obtain ⟨cs', h1, h2⟩ := hx i (by omega)
      have ce : Try.prog.cellsOf 31 = 4 := by kernel_rfl
      rw [ce] at h1
      obtain ⟨_, hlen, hcell⟩ := World.cells?_some h1
      match cs', hlen with
      | [v0, v1, v2, v3], _ =>
        obtain ⟨e, he, hw⟩ := open_stepL h2
        refine ⟨e, fun q x hx => ?_, hw⟩
        rw [← he] at hx
        have hq := (List.getElem?_eq_some_iff.1 hx).1
        have := hcell q (by simpa using hq)
        rw [Go.Deep.add_add] at this
        rw [this]
        exact hx)
    exact ⟨l, by rw [← h2] at h1 ⊢; exact h1, h2, by omega, h3⟩

end Go.Proofs.Ytiekholaheddhaa
