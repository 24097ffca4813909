/-
  A region that draws its order, whose operations only read, and whose callees leave what was there.
-/
import Derived.Test.YteomalmflebkhaaZW0
import Derived.Shelf.SlSortCmp.QuietGrown
import Derived.Deep.QuietTactic
import Derived.BigQuiet
set_option linter.unusedSimpArgs false
set_option linter.unusedVariables false
namespace Go.Proofs.Yteomalmflebkhaa
open Go.RowKit Go.Lib

/-- a world in which all that was there is as it was -/
structure BelowOf (W0 : World) where
  w : World
  h : Below W0.heap.size W0 w

theorem wp_region_quiet_below {P : Program} {id : Nat} {Q : Exit → Act → World → Prop} {a : Act} {w : World} {l : List Oper} (hm : P.follows .mixedOrders = true) (hB : Region.lexB .any l.toArray = true)
    (h : wpQuiet P l.toArray (fun w' => ∃ p : BelowOf w, w' = p.w) (fun a' => ∀ w', (∃ p : BelowOf w, w' = p.w) → Q .normal a' w') l a) : (Code.region id l.toArray true).wp P Q a w :=
  wp_region_quiet (C := fun w' => ∃ p : BelowOf w, w' = p.w) hm hB ⟨⟨w.drew, (Below.refl _ _).drew⟩, rfl⟩ (by simpa using h)

theorem below_of {P : Program} {f : FuncId} {args : Array Value} {w : World} {p : BelowOf w} {v : Value}
    (h : Calls P f args p.w fun e w' => e = .returned v ∧ Below p.w.heap.size p.w w') : Calls P f args p.w fun e w'' => e = .returned v ∧ ∃ p : BelowOf w, w'' = p.w :=
  h.mono fun _ W' ⟨he, hb⟩ => ⟨he, ⟨W', bnext p.h hb⟩, rfl⟩

theorem BelowOf.ne (X : World) : Nonempty (BelowOf X) := ⟨⟨X, Below.refl _ _⟩⟩

end Go.Proofs.Yteomalmflebkhaa
