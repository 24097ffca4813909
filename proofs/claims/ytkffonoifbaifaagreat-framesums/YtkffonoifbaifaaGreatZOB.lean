/-
  Bytes that come in, opened.
-/
import Derived.Test.YtkffonoifbaifaaGreatZGX
import Derived.Deep.Slices
import Derived.OpenShut
import Derived.ChangeSame
import Derived.ChangeArms
set_option linter.unusedSimpArgs false
set_option linter.unusedVariables false
namespace Go.Proofs.YtkffonoifbaifaaGreat
open Go.RowKit Go.Lib

theorem wf8 {n : Int} (h : (Lit.int .u8 n).wf = true) : 0 ≤ n ∧ n ≤ 255 := by
  simp [Lit.wf, IntKind.min, IntKind.max, IntKind.bits, IntKind.signed] at h
  omega

theorem mk_each {α : Type} [Inhabited α] {enc : α → List Value} {k : Nat} (hk : ∀ x, (enc x).length = k) (k0 : 0 < k) {Pr : α → Prop} {w : World} {ad : Addr} {len cap : Nat} (hlc : len ≤ cap)
    (each : ∀ i, i < len → ∃ e : α, (∀ q x, (enc e)[q]? = some x → w.cell? (ad.add (i * k + q)) = some x) ∧ Pr e) : ∃ l : List α, RC w (.slice (some ad) len cap) l.length (flat enc l) ∧ l.length = len ∧ ∀ e ∈ l, Pr e := by
  obtain ⟨q, hq⟩ := Go.Deep.choose_lt each
  have hll : ((List.range len).map q).length = len := by simp
  refine ⟨(List.range len).map q, ?_, hll, fun e he => ?_⟩
  · by_cases h0 : len = 0
    · subst h0; exact .inl ⟨by simp, _, _, rfl⟩
    · obtain ⟨b, off, spot⟩ := ad
      have h00 : ∃ x, (enc (q 0))[0]? = some x := ⟨(enc (q 0))[0]'(by rw [hk]; exact k0), List.getElem?_eq_getElem _⟩
      obtain ⟨x0, hx0⟩ := h00
      have hc0 := (hq 0 (by omega)).1 0 x0 hx0
      have hspot : spot = none := by simpa [Addr.add] using World.cell?_spot hc0
      subst hspot
      rw [Go.WideShapes.add_plain] at hc0
      rw [hll]
      refine .inr ⟨b, off, cap, rfl, hlc, cell_lt hc0, fun j x hx => ?_⟩
      obtain ⟨e, he1, he2⟩ := flat_at hk k0 hx
      have hj : j / k < len := by have := (List.getElem?_eq_some_iff.1 he1).1; rwa [hll] at this
      have hje : q (j / k) = e := by
        rw [List.getElem?_map, List.getElem?_range hj] at he1
        simpa using he1
      have := (hq (j / k) hj).1 (j % k) x (by rw [hje]; exact he2)
      rw [Go.WideShapes.add_plain, show j / k * k + j % k = j by have := Nat.div_add_mod j k; rw [Nat.mul_comm] at this; exact this] at this
      exact this
  · obtain ⟨j, hj, rfl⟩ := List.mem_map.1 he
    exact (hq j (List.mem_range.1 hj)).2

theorem flat_bytes (l : List Nat) : flat (fun b : Nat => [Value.int .u8 (b : Nat)]) l = bC l := by
  unfold flat bC
  induction l with
  | nil => rfl
  | cons x l ih => rw [List.flatMap_cons, ih]; rfl
theorem open_bytes {H : Type} {enc : TypeId × Value → H} {w : World} {base : Nat} {spare : Nat → Bool} {held : Bool} {fuel : Nat} {a : Option Addr} {len cap : Nat} {x : DataW H × List MemPlace}
    (h : DataW.trod enc Tryz.prog w base spare held fuel 22 [.slice a len cap] = some x) : ∃ l : List Nat, RC w (.slice a len cap) l.length (bC l) ∧ l.length = len ∧ len ≤ maxLen ∧ ∀ e ∈ l, e < 256 := by
  rcases Go.Deep.open_slice Tryz.underlying22 h with ⟨h0, _⟩ | ⟨ad, ln, cp, m, n, D, Pl, h0, hb, hl, hm, hmm, _, hx⟩
  · simp only [List.cons.injEq, Value.slice.injEq, and_true] at h0
    obtain ⟨rfl, rfl, rfl⟩ := h0
    exact ⟨[], .inl ⟨rfl, _, _, rfl⟩, rfl, by unfold maxLen; omega, fun e he => by cases he⟩
  · simp only [List.cons.injEq, Value.slice.injEq, and_true] at h0
    obtain ⟨rfl, rfl, rfl⟩ := h0
    have hlm : len ≤ m := by rw [hmm]; split <;> omega
    obtain ⟨l, h1, h2, h3⟩ := mk_each (enc := fun b : Nat => [Value.int .u8 (b : Nat)]) (k := 1) (fun _ => rfl) (by omega) (Pr := fun b => b < 256) (w := w) (ad := ad) (len := len) (cap := cap) hl (fun i hi => by
      obtain ⟨cs', h1, h2⟩ := hx i (by omega)
      have ce : Tryz.prog.cellsOf 5 = 1 := by kernel_rfl
      rw [ce] at h1
      obtain ⟨_, hlen, hcell⟩ := World.cells?_some h1
      match cs', hlen with
      | [v0], _ =>
        obtain ⟨n0, e0, _, w0⟩ := DataW.trod_int Tryz.underlying5 h2
        simp at e0
        subst e0
        have q0 := hcell 0 (by omega)
        rw [Go.Deep.add_add] at q0
        obtain ⟨b, rfl⟩ : ∃ b : Nat, n0 = (b : Int) := ⟨n0.toNat, by have := wf8 w0; omega⟩
        refine ⟨b, fun q x hx => ?_, by have := wf8 w0; omega⟩
        match q, hx with
        | 0, hx => simp at hx; subst hx; simpa using q0
        | q + 1, hx => simp at hx)
    rw [flat_bytes] at h1
    exact ⟨l, by rw [← h2] at h1 ⊢; exact h1, h2, by omega, h3⟩
end Go.Proofs.YtkffonoifbaifaaGreat
