/-
  What a pair tells.
-/
import Derived.Test.YteomalmflebkhaaZSG
set_option linter.unusedSimpArgs false
set_option linter.unusedVariables false
namespace Go.Proofs.Yteomalmflebkhaa
open Go.RowKit Go.Lib

variable {W0 X : World} {a x b y : Nat} {s t : Stn}
theorem P4.gd1 (h : P4 W0 a x b y s t X) : Gd s := by obtain ⟨U, V, h1, h2, h3⟩ := h; exact h1.gd
theorem P4.c1 (h : P4 W0 a x b y s t X) : Calls Try.prog 15 #[.pointer (some ⟨a, 0, none⟩)] X (CopA X s) := by obtain ⟨U, V, h1, h2, h3⟩ := h; exact h1.c1
theorem P4.c2 (h : P4 W0 a x b y s t X) : Calls Try.prog 16 #[.pointer (some ⟨x, 0, none⟩)] X (CopA X s) := by obtain ⟨U, V, h1, h2, h3⟩ := h; exact h1.c2

end Go.Proofs.Yteomalmflebkhaa
