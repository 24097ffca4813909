/-
  A region that draws its order, whose operations only read, and whose callees leave what was there; parts of rows.
-/
import Derived.Test.YtgoalmkjmjikmaaZKN
import Derived.Shelf.SlSortCmp.QuietGrown
set_option linter.unusedSimpArgs false
set_option linter.unusedVariables false
namespace Go.Proofs.Ytgoalmkjmjikmaa
open Go.RowKit Go.Lib

/-- a world in which all that was there is as it was -/
structure BelowOf (W0 : World) where
  w : World
  h : Below W0.heap.size W0 w

theorem wp_region_quiet_below {P : Program} {id : Nat} {Q : Exit → Act → World → Prop} {a : Act} {w : World} {l : List Oper} (hm : P.follows .mixedOrders = true) (hB : Region.lexB .any l.toArray = true)
    (h : wpQuiet P l.toArray (fun w' => ∃ p : BelowOf w, w' = p.w) (fun a' => ∀ w', (∃ p : BelowOf w, w' = p.w) → Q .normal a' w') l a) : (Code.region id l.toArray true).wp P Q a w :=
  wp_region_quiet (C := fun w' => ∃ p : BelowOf w, w' = p.w) hm hB ⟨⟨w.drew, (Below.refl _ _).drew⟩, rfl⟩ (by simpa using h)

theorem below_of {P : Program} {f : FuncId} {args : Array Value} {w : World} {p : BelowOf w} {v : Value}
    (h : Calls P f args p.w fun e w' => e = .returned v ∧ Below p.w.heap.size p.w w') : Calls P f args p.w fun e w'' => e = .returned v ∧ ∃ p : BelowOf w, w'' = p.w :=
  h.mono fun _ W' ⟨he, hb⟩ => ⟨he, ⟨W', bnext p.h hb⟩, rfl⟩

theorem sl_toR (w : World) (a : Option Addr) (n c k : Nat) (hk : k ≤ c) :
    (Instr.sliceAt 22 (.slice a n c) none (some (.int .i64 (k : Nat))) none).run Try.prog w = .ok (.slice a k c) w := by
  obtain ⟨i0, hi, hz0, hz1, hz2⟩ := info_parts infoR
  have h1 : (k : Int) ≤ (c : Int) := by omega
  simp [Instr.sliceAt, Instr.slice, run_underlying Try.underlying22, sizeOf, typeInfo, hi, hz1, go_sem, h1, hk]
theorem sl_toI (w : World) (a : Option Addr) (n c k : Nat) (hk : k ≤ c) :
    (Instr.sliceAt 23 (.slice a n c) none (some (.int .i64 (k : Nat))) none).run Try.prog w = .ok (.slice a k c) w := by
  obtain ⟨i0, hi, hz0, hz1, hz2⟩ := info_parts infoI
  have h1 : (k : Int) ≤ (c : Int) := by omega
  simp [Instr.sliceAt, Instr.slice, run_underlying Try.underlying23, sizeOf, typeInfo, hi, hz1, go_sem, h1, hk]
theorem RC.takeN {W : World} {a : Option Addr} {n c : Nat} {C : List Value} (h : RC W (.slice a n c) n C) (m : Nat) (hm : m ≤ n) (D : List Value) (hD : ∀ (j : Nat) (x : Value), D[j]? = some x → C[j]? = some x) : RC W (.slice a m c) m D := by
  rcases h with ⟨h0, a', cap, e⟩ | ⟨b, off, cap, e, h1, h2, h3⟩
  · exact .inl ⟨by omega, a, c, by rw [show m = 0 by omega]⟩
  · simp at e
    obtain ⟨rfl, rfl⟩ := e
    exact .inr ⟨b, off, c, rfl, by omega, h2, fun j x hx => h3 j x (hD j x hx)⟩
theorem RR.takeL {W : World} {a : Option Addr} {c : Nat} {l m : List ((Int × Int) × Int)} (h : RR W (.slice a (l ++ m).length c) (l ++ m)) : RR W (.slice a l.length c) l :=
  RC.takeN h l.length (by simp) _ (fun j x hx => by rw [flat_append]; exact (List.getElem?_append_left (List.getElem?_eq_some_iff.1 hx).1).trans hx)
theorem RI.takeL {W : World} {a : Option Addr} {c : Nat} {l m : List (Int × Int)} (h : RI W (.slice a (l ++ m).length c) (l ++ m)) : RI W (.slice a l.length c) l :=
  RC.takeN h l.length (by simp) _ (fun j x hx => by rw [flat_append]; exact (List.getElem?_append_left (List.getElem?_eq_some_iff.1 hx).1).trans hx)

end Go.Proofs.Ytgoalmkjmjikmaa
