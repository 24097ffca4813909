/-
  What the rows' condition gives: the one cell of the library's table that is read.
-/
import Derived.Test.YticjilkcobpcjaaDoorRows
import Derived.Test.YticjilkcobpcjaaDoorZKn
import Derived.Lib.LaidTab
import Derived.Stop.LaidErr
import Derived.MakeChecks
import Derived.LaidMore
namespace Go.Proofs.YticjilkcobpcjaaDoor
open Go.RowKit Go.Lib

theorem t64 : (Tryd.prog.globals[5]?).map (·.type) = some 150 := by kernel_rfl
def zs64 : List Int := [0, 1, 56, 2, 57, 49, 28, 3, 61, 58, 42, 50, 38, 29, 17, 4, 62, 47, 59, 36, 45, 43, 51, 22, 53, 39, 33, 30, 24, 18, 12, 5, 63, 55, 48, 27, 60, 41, 37, 16, 46, 35, 44, 21, 52, 32, 23, 11, 54, 26, 40, 15, 34, 20, 31, 10, 25, 14, 19, 9, 13, 8, 7, 6]
theorem tab_of {W : World} {nm : String} {x : String × DataW Unit} {r : List (String × DataW Unit)} (g64 : Tryd.prog.globalNamed nm = some 5) (h : laidMet Tryd.prog (x :: (nm, Rows.laid_math_bits_deBruijn64tab) :: r) W) : Tab W := by
  have h1 : laidMet Tryd.prog ((nm, tabData .u8 zs64) :: r) W := h.tail
  have h2 := tabIs_of_head g64 t64 Tryd.underlying150 Tryd.underlying5 (by kernel_rfl) (by kernel_rfl) h1
  have h3 := h2.cell g64 15 (by decide)
  refine ⟨h3, ?_⟩
  unfold World.cell? at h3
  by_cases hlt : 5 < W.heap.size
  · exact hlt
  · have : W.heap[5]? = none := by simp; omega
    simp [this] at h3

end Go.Proofs.YticjilkcobpcjaaDoor
