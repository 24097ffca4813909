/-
  Bytes, put behind bytes of one's own.
-/
import Derived.Test.YtoflfgoflpnacaaZLY2
set_option linter.unusedSimpArgs false
set_option linter.unusedVariables false
namespace Go.Proofs.Ytoflfgoflpnacaa
open Go.RowKit Go.Lib

theorem bC_length (L : List Nat) : (bC L).length = L.length := by unfold bC; simp
theorem own_empty (w : World) : (w.alloc (.cells #[] 5)).ownsRow w.heap.size 5 1 (.slice (some ⟨w.heap.size, 0, none⟩) 0 0) ([] : List Nat).length (bC []) :=
  ⟨rfl, .inr ⟨w.heap.size, 0, #[], rfl, Nat.le_refl _, Bx.new w _ _, Nat.le_refl _, by unfold maxLen; omega, rfl, rfl⟩⟩

/-- append(b, m...) of bytes -/
theorem app_bytes (w : World) (ty : TypeId) (N : Nat) (v u : Value) (L M : List Nat) (h : w.ownsRow N 5 1 v L.length (bC L)) (hv : v ≠ .slice none 0 0) (hu : RC w u M.length (bC M)) (hN : N ≤ w.heap.size) (hl : L.length ≤ 1000000) (hm : M.length ≤ 1000000) :
    ∃ v' w', (Builtin.append_ #[41, 41] ty #[v, u]).run Try.prog w = .ok v' w' ∧ w'.ownsRow N 5 1 v' (L ++ M).length (bC (L ++ M)) ∧ w.grownBy w' v.ownBlock ∧ v' ≠ .slice none 0 0 := by
  obtain ⟨i0, hi, hz0, hz1, hz2⟩ := info_parts infoB
  have step : ∀ (ad : Addr) (cc : Nat), u = .slice (some ad) M.length cc → (∀ j x, (bC M)[j]? = some x → w.cell? (ad.add j) = some x) → ∃ v' w', (Builtin.append_ #[41, 41] ty #[v, u]).run Try.prog w = .ok v' w' ∧ w'.ownsRow N 5 1 v' (L ++ M).length (bC (L ++ M)) ∧ w.grownBy w' v.ownBlock ∧ v' ≠ .slice none 0 0 := by
    rintro ad cc rfl hc
    obtain ⟨v', w', q1, q2, q3, q4, _⟩ := run_append_own_at (P := Try.prog) w N 41 ty 5 i0 _ 1 1 Try.underlying41 hi hz0 hz1 hz2 rfl (by decide) v L.length (bC L) h ad M.length cc (bC M) (by rw [bC_length]; omega) hc (bC_one M) (by unfold maxLen; omega) (by omega) hN
    refine ⟨v', w', q1, ?_, q3, fun e => hv (q4.1 e).1⟩
    rw [bC_app, List.length_append]
    exact q2
  rcases hu with ⟨h0, a, cap, rfl⟩ | ⟨b, off, cap, rfl, _, _, hc⟩
  · have e : M = [] := List.eq_nil_of_length_eq_zero h0
    subst e
    cases a with
    | some ad => exact step ad cap rfl (fun j x hx => by simp [bC] at hx)
    | none =>
      rcases h.2 with ⟨e, _⟩ | ⟨g, cg, cur, rfl, hbg, hg, h1, h2, h3, h4⟩
      · exact absurd e hv
      refine ⟨.slice (some ⟨g, 0, none⟩) L.length cg, w, ?_, by simpa using h, ⟨rfl, rfl, rfl, Nat.le_refl _, fun _ _ _ => rfl⟩, hv⟩
      simp [Builtin.append_, run_underlying Try.underlying41, sizeOf, typeInfo, hi, Builtin.lenOf, Builtin.firstCells, storeCells, h1]
  · exact step ⟨b, off, none⟩ cap rfl (fun j x hx => by rw [Addr.add_lit]; exact hc j x hx)

end Go.Proofs.Ytoflfgoflpnacaa
