/-
  Within NetOwn.
-/
import Derived.Test.YtfminifjnjfocabZOA
set_option linter.unusedSimpArgs false
set_option linter.unusedVariables false
namespace Go.Proofs.Ytfminifjnjfocab
open Go.RowKit Go.Lib

variable {P N S S' T T' : Nat → Prop} {w W W' V V' Y : World} {b p f m B q ba bb : Nat} {c : Cp} {s s' : Stn} {v u : Value} {L : List (Cp × Value)} {e : Ending} {D : Nat → List Int}
/-- y := append(x, Copy{Num: -1}) -/
theorem OL.app {a : Option Addr} {n k : Nat} (h : OL W B (.slice a n k) L D) (hn : n = L.length) (hB : B ≤ W.heap.size) (hl : L.length ≤ 2147483647) (ty : TypeId) {X : World} (hX : W.alloc (.cells #[.int .i64 (-1), .int .i64 0, .int .i64 0, .slice none 0 0, .int .i64 0, .bool false] 34) = X) : ∃ a' c' Y, (Builtin.append_ #[31, 31] ty #[.slice a n k, .slice (some ⟨W.heap.size, 0, none⟩) 1 1]).run Try.prog X = .ok (.slice a' (n + 1) c') Y ∧ OL Y B (.slice a n k) L D ∧ Kp (fun q => B ≤ q) W Y := by
  subst hn
  have bX : Below W.heap.size W X := by rw [← hX]; exact ballc (Below.refl _ _) _
  have hbx : Bx X W.heap.size 34 #[.int .i64 (-1), .int .i64 0, .int .i64 0, .slice none 0 0, .int .i64 0, .bool false] := by rw [← hX]; exact Bx.new _ _ _
  have hX' := h.below bX
  have hsX := bX.size
  obtain ⟨a', c', Y, r1, r2, r3, r4, r5⟩ := app_keep 31 34 6 64 (.agg #[.int .i64 0, .int .i64 0, .int .i64 0, .slice none 0 0, .int .i64 0, .bool false]) Try.underlying31 infoC rfl (by decide) X ty B a L.length k 1 (flat encC L) hX'.row (by omega) W.heap.size [.int .i64 (-1), .int .i64 0, .int .i64 0, .slice none 0 0, .int .i64 0, .bool false] hbx rfl (by decide) (fun u hu => by
    simp only [List.mem_cons, List.not_mem_nil, or_false] at hu
    rcases hu with rfl | rfl | rfl | rfl | rfl | rfl <;> rfl) (by omega) (by decide) (by omega)
  refine ⟨a', c', Y, r1, ⟨r3, fun i x hx => (hX'.dat i x hx).kp r4 (fun q hq e => ?_), h.apt⟩, (Kp.of_below bX).trans r4 (fun q hq => .inl (World.ownsRow.lt hX'.row q hq).1)⟩
  obtain ⟨c1, e1⟩ := (hX'.dat i x hx).ty q hq
  rcases hX'.row.2 with ⟨e3, _⟩ | ⟨g3, cap3, cur3, e3, _, hg3, _⟩
  · rw [e3] at e; cases e
  · rw [e3] at e
    cases e
    have hb3 : Bx X g3 34 cur3 := hg3
    exact hb3.apart e1 (by decide) rfl
/-- two Nets, and what was told of one beside them -/
structure WS (w : World) (S T : Nat → Prop) (ba bb : Nat) (s : Stn) (B : Nat) (v : Value) (L : List (Cp × Value)) (D : Nat → List Int) (W : World) : Prop where
  tn : TN w S T W ba bb s s
  ol : OL W B v L D
  ls : ∀ i, S i → i < B
  lt : ∀ i, T i → i < B
  lw : w.heap.size ≤ B
  lB : B ≤ W.heap.size
theorem WS.kp {D' : Nat → List Int} {L' : List (Cp × Value)} (h : WS w S T ba bb s B v L D W) (k : Kp (fun q => B ≤ q) W W') (ho : OL W' B v L' D') : WS w S T ba bb s B v L' D' W' := ⟨h.tn.kp k (fun i hi => ⟨fun e => by have := h.ls i e; omega, fun e => by have := h.lt i e; omega, by have := h.lw; omega⟩), ho, h.ls, h.lt, h.lw, by have := h.lB; have := k.size; omega⟩
theorem WS.below (h : WS w S T ba bb s B v L D W) (hb : Below W.heap.size W W') : WS w S T ba bb s B v L D W' := h.kp (Kp.of_below hb) (h.ol.below hb)
/-- the first n bytes are c -/
def Fc (l : List Int) (n : Nat) (c : Int) : Prop := ∀ q, q < n → l[q]? = some c
theorem Fc.set {l : List Int} {n : Nat} {c : Int} (h : Fc l n c) (hn : n < l.length) : Fc (l.set n c) (n + 1) c := fun q hq => by
  rw [List.getElem?_set]
  by_cases e : n = q
  · subst e; rw [if_pos rfl, if_pos hn]
  · rw [if_neg e]; exact h q (by omega)
theorem Fc.app {l : List Int} {n : Nat} {c : Int} (h : Fc l n c) (hn : n ≤ l.length) (t : Int) : Fc (l ++ [t]) n c := fun q hq => by
  rw [List.getElem?_append_left (by omega)]; exact h q hq

end Go.Proofs.Ytfminifjnjfocab
