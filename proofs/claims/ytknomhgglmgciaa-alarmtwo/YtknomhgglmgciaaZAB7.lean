/-
  The law's step, by its kind.
-/
import Derived.Test.YtknomhgglmgciaaZAB4
import Derived.Test.YtknomhgglmgciaaZAB5
import Derived.Test.YtknomhgglmgciaaZAB6
import Derived.Deep.RegionLaw
import Derived.Deep.RegionWith
import Derived.Deep.CutRange
set_option linter.unusedSimpArgs false
set_option linter.unusedVariables false
namespace Go.Proofs.Ytknomhgglmgciaa
open Go.RowKit Go.Lib
variable {Pa : Nat → Prop} {W X X' : World} {b n r : Nat} {ls ms : Int} {L M : List Tm} {s : Stp}
theorem does_in (h : QA Pa W b n r ls ms L L) (hP : ∀ i, Pa i → i < W.heap.size) (hn : n ≤ 999990) (s : Stp) (hk : in64 s.key) : Calls Try.prog 13 #[.pointer (some ⟨b, 0, none⟩), .pointer (some ⟨r, 0, none⟩), .agg (stC s)] W (DoA Pa W b (n + 1) r ls ms (doL ls ms L s)) := by
  by_cases k1 : s.kind = 1
  · exact does_1 h hP hn hk k1
  by_cases k2 : s.kind = 2
  · exact does_2 h hP hn hk k2
  by_cases k3 : s.kind = 3
  · exact does_3 h hP hn hk k3
  by_cases k4 : s.kind = 4
  · exact does_4 h hP hn hk k4
  exact does_0 h hP hn hk k1 k2 k3 k4

end Go.Proofs.Ytknomhgglmgciaa
