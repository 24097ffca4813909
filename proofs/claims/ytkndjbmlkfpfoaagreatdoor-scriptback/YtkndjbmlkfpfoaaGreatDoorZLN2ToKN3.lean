/-
  Steps in lists of their own, marks behind them.
-/
import Derived.Test.YtkndjbmlkfpfoaaGreatDoorZLN0ToLN1
import Derived.Test.YtkndjbmlkfpfoaaGreatDoorZTR0
import Derived.Test.YtkndjbmlkfpfoaaGreatDoorZDNcToKN2

set_option linter.unusedSimpArgs false
set_option linter.unusedVariables false
namespace Go.Proofs.YtkndjbmlkfpfoaaGreatDoor
open Go.RowKit Go.Lib

/-- a step's rows, with marks behind them -/
structure LM (W : World) (N : Nat) (s : Sp) (dv bv : Value) : Prop where
  dr : ∃ g c, dv = .slice (some ⟨g, 0, none⟩) s.draws.length c ∧ W.ownsRow N 3 1 (.slice (some ⟨g, 0, none⟩) (s.draws.length + 1) c) (s.draws.length + 1) (flat enN s.draws ++ [Value.int .i64 901])
  by_ : ∃ g c, bv = .slice (some ⟨g, 0, none⟩) s.data.length c ∧ W.ownsRow N 5 1 (.slice (some ⟨g, 0, none⟩) (s.data.length + 1) c) (s.data.length + 1) (Lib.byteCells s.data ++ [Value.int .u8 171])
theorem LM.kp {M : Nat → Prop} {W W' : World} {N : Nat} {s : Sp} {dv bv : Value} (h : LM W N s dv bv) (k : Kp M W W') (h1 : ∀ i, dv.ownBlock = some i → ¬ M i) (h2 : ∀ i, bv.ownBlock = some i → ¬ M i) : LM W' N s dv bv := by
  obtain ⟨⟨g, c, rfl, ho⟩, ⟨g2, c2, rfl, ho2⟩⟩ := h
  exact ⟨⟨g, c, rfl, owns_kp ho k h1⟩, ⟨g2, c2, rfl, owns_kp ho2 k h2⟩⟩
theorem LM.below {W W' : World} {N : Nat} {s : Sp} {dv bv : Value} (h : LM W N s dv bv) (hb : Below W.heap.size W W') : LM W' N s dv bv := h.kp (M := fun _ => False) (Kp.of_below hb) (fun _ _ e => e) (fun _ _ e => e)
theorem LM.wk {W : World} {N N' : Nat} {s : Sp} {dv bv : Value} (h : LM W N s dv bv) (hn : N' ≤ N) : LM W N' s dv bv := by
  obtain ⟨⟨g, c, e, ho⟩, ⟨g2, c2, e2, ho2⟩⟩ := h
  exact ⟨⟨g, c, e, owns_wk ho hn⟩, ⟨g2, c2, e2, owns_wk ho2 hn⟩⟩
theorem pre_rc {W : World} {N : Nat} {E : TypeId} {g n c : Nat} {C : List Value} {y : Value} (h : W.ownsRow N E 1 (.slice (some ⟨g, 0, none⟩) (n + 1) c) (n + 1) (C ++ [y])) : RC W (.slice (some ⟨g, 0, none⟩) n c) n C := by
  rcases RC.of_owns h with ⟨h0, _⟩ | ⟨b, off, cap, e, h1, h2, h3⟩
  · omega
  · simp at e
    obtain ⟨⟨rfl, rfl⟩, rfl⟩ := e
    exact .inr ⟨g, 0, c, rfl, by omega, h2, fun j x hx => h3 j x ((List.getElem?_append_left (List.getElem?_eq_some_iff.1 hx).1).trans hx)⟩
theorem LM.rn {W : World} {N : Nat} {s : Sp} {dv bv : Value} (h : LM W N s dv bv) : RNm W dv s.draws := by
  obtain ⟨g, c, rfl, ho⟩ := h.dr
  exact pre_rc ho
theorem LM.rb {W : World} {N : Nat} {s : Sp} {dv bv : Value} (h : LM W N s dv bv) : RBy W bv s.data := by
  obtain ⟨g, c, rfl, ho⟩ := h.by_
  exact pre_rc ho
theorem LM.one {W : World} {N : Nat} {s : Sp} {dv bv : Value} (h : LM W N s dv bv) : ∀ u ∈ encS (s, dv, bv), u.oneCell' = true := by
  obtain ⟨⟨g, c, rfl, ho⟩, ⟨g2, c2, rfl, ho2⟩⟩ := h
  intro u hu
  simp [encS, spC] at hu
  rcases hu with rfl | rfl | rfl | rfl | rfl | rfl | rfl | rfl | rfl <;> rfl
/-- Steps of one's own, marks behind each one's rows -/
structure OwL (W : World) (N : Nat) (v : Value) (m : List (Sp × Value × Value)) : Prop where
  row : W.ownsRow N 40 9 v m.length (flat encS m)
  lm : ∀ x ∈ m, LM W N x.1 x.2.1 x.2.2
theorem OwL.below {W W' : World} {N : Nat} {v : Value} {m : List (Sp × Value × Value)} (h : OwL W N v m) (hb : Below W.heap.size W W') : OwL W' N v m :=
  ⟨owns_kp (N := fun _ => False) h.row (Kp.of_below hb) (fun _ _ e => e), fun x hx => (h.lm x hx).below hb⟩
/-- what lent answers: the same steps in lists of their own, a mark behind the row and behind each one's rows -/
structure LentS (W : World) (N : Nat) (v : Value) (l m : List (Sp × Value × Value)) : Prop where
  eq : m.map Prod.fst = l.map Prod.fst
  row : ∃ g c z, v = .slice (some ⟨g, 0, none⟩) m.length c ∧ z.1.kind = 902 ∧ W.ownsRow N 40 9 (.slice (some ⟨g, 0, none⟩) (m.length + 1) c) (m.length + 1) (flat encS m ++ encS z)
  lm : ∀ x ∈ m, LM W N x.1 x.2.1 x.2.2
theorem LentS.rs {W : World} {N : Nat} {v : Value} {l m : List (Sp × Value × Value)} (h : LentS W N v l m) : RStp W v m := by
  obtain ⟨g, c, z, rfl, _, ho⟩ := h.row
  refine ⟨?_, fun x hx => (h.lm x hx).rn, fun x hx => (h.lm x hx).rb⟩
  rcases RC.of_owns ho with ⟨h0, _⟩ | ⟨b, off, cap, e, h1, h2, h3⟩
  · omega
  · simp at e
    obtain ⟨⟨rfl, rfl⟩, rfl⟩ := e
    exact .inr ⟨g, 0, c, rfl, by omega, h2, fun j x hx => h3 j x ((List.getElem?_append_left (List.getElem?_eq_some_iff.1 hx).1).trans hx)⟩
theorem LentS.below {W W' : World} {N : Nat} {v : Value} {l m : List (Sp × Value × Value)} (h : LentS W N v l m) (hb : Below W.heap.size W W') : LentS W' N v l m := by
  obtain ⟨g, c, z, e, hz, ho⟩ := h.row
  exact ⟨h.eq, ⟨g, c, z, e, hz, owns_kp (N := fun _ => False) ho (Kp.of_below hb) (fun _ _ e => e)⟩, fun x hx => (h.lm x hx).below hb⟩

end Go.Proofs.YtkndjbmlkfpfoaaGreatDoor

/-
  The law's lent.
-/
set_option linter.unusedSimpArgs false
set_option linter.unusedVariables false
namespace Go.Proofs.YtkndjbmlkfpfoaaGreatDoor
open Go.RowKit Go.Lib

theorem LitS.data {l : List (Sp × Value × Value)} (h : LitS l) {i : Nat} {e : Sp × Value × Value} (he : l[i]? = some e) : e.1.data.length ≤ 30000 := by
  have h1 := smL_take he
  have h2 : smL l = smL (l.take (i + 1)) + smL (l.drop (i + 1)) := by
    unfold smL
    rw [← List.sum_append, ← List.map_append, List.take_append_drop]
  have := h.sm
  omega
end Go.Proofs.YtkndjbmlkfpfoaaGreatDoor
