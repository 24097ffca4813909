/-
  What the rows' condition gives: all that the scanner asks of the library's variables.
-/
import Derived.Test.YticjilkcobpcjaaDoorZLaid
import Derived.Test.YticjilkcobpcjaaDoorZSc4
import Derived.LaidLaws
set_option linter.unusedSimpArgs false
set_option linter.unusedVariables false
namespace Go.Proofs.YticjilkcobpcjaaDoor
open Go.RowKit Go.Lib Go.ChangeShapes

theorem t10 : (Tryd.prog.globals[0]?).map (·.type) = some 132 := by kernel_rfl
theorem tER : (Tryd.prog.globals[2]?).map (·.type) = some 66 := by kernel_rfl
theorem tES : (Tryd.prog.globals[1]?).map (·.type) = some 66 := by kernel_rfl
theorem heap_of_var {W : World} {nm : String} {g : Nat} {cs : Array Value} (hg : Tryd.prog.globalNamed nm = some g) (h : W.var? Tryd.prog nm = some cs) : ∃ ty lk, W.heap[g]? = some (.cells cs ty lk) := by
  unfold World.var? at h
  rw [hg] at h
  simp only [Option.bind_some] at h
  split at h
  · rename_i c ty lk e
    cases h
    exact ⟨ty, lk, e⟩
  · cases h
theorem lt_of_heap {W : World} {g : Nat} {o : Obj} (h : W.heap[g]? = some o) : g < W.heap.size := (Array.getElem?_eq_some_iff.1 h).1
theorem err_of {W : World} {nm tn : String} {g : Nat} {d : DataW Unit} {r : List (String × DataW Unit)} (hg : Tryd.prog.globalNamed nm = some g) (ht : (Tryd.prog.globals[g]?).map (·.type) = some 66) (h : laidMet Tryd.prog ((nm, .iface tn d) :: r) W) : ErrAt g W ∧ g < W.heap.size := by
  obtain ⟨ps, ⟨g', t', cs, fuel, p, q, hg', ht', hvar, hd, _, _⟩, _⟩ := h
  obtain rfl := Option.some.inj (hg.symm.trans hg')
  obtain rfl := Option.some.inj (ht.symm.trans ht')
  obtain ⟨ty, lk, hh⟩ := heap_of_var hg hvar
  refine ⟨?_, lt_of_heap hh⟩
  obtain ⟨_, u, v, hcs, _⟩ := iface_of_trod Tryd.underlying66 hd
  refine ⟨.iface u v, ?_, .inr ⟨u, v, rfl⟩⟩
  have hc := World.var?_cell hg hvar 0
  rw [hc]
  obtain ⟨l⟩ := cs
  simp at hcs
  subst hcs
  rfl
theorem errS_of {W : World} {nm tn : String} {d : DataW Unit} {r : List (String × DataW Unit)} (hg : Tryd.prog.globalNamed nm = some 1) (h : laidMet Tryd.prog ((nm, .iface tn d) :: r) W) : ErrS W ∧ 1 < W.heap.size := by
  obtain ⟨ps, ⟨g', t', cs, fuel, p, q, hg', ht', hvar, hd, _, _⟩, _⟩ := h
  obtain rfl := Option.some.inj (hg.symm.trans hg')
  obtain rfl := Option.some.inj (tES.symm.trans ht')
  obtain ⟨ty, lk, hh⟩ := heap_of_var hg hvar
  obtain ⟨_, u, v, hcs, _⟩ := iface_of_trod Tryd.underlying66 hd
  obtain ⟨l⟩ := cs
  simp at hcs
  subst hcs
  exact ⟨⟨u, v, ty, lk, hh⟩, lt_of_heap hh⟩
theorem lw_of {W : World} {x : String × DataW Unit} {n2 n3 n4 n5 : String} (g64 : Tryd.prog.globalNamed n2 = some 5) (g10 : Tryd.prog.globalNamed n3 = some 0) (gR : Tryd.prog.globalNamed n4 = some 2) (gS : Tryd.prog.globalNamed n5 = some 1)
    (h : laidMet Tryd.prog (x :: (n2, Rows.laid_math_bits_deBruijn64tab) :: (n3, Rows.laid_internal_strconv_uint64pow10) :: (n4, Rows.laid_strconv_ErrRange) :: (n5, Rows.laid_strconv_ErrSyntax) :: []) W) : Lw W := by
  have hT := tab_of g64 h
  have h10 : laidMet Tryd.prog ((n3, tabData .u64 Lib.pow10Tab) :: (n4, Rows.laid_strconv_ErrRange) :: (n5, Rows.laid_strconv_ErrSyntax) :: []) W := h.tail.tail
  have hP := tabIs_of_head g10 t10 Tryd.underlying132 Tryd.underlying95 (by kernel_rfl) (by kernel_rfl) h10
  unfold TabIs at hP
  obtain ⟨ty, lk, hh⟩ := heap_of_var g10 hP
  have hR := err_of gR tER h.tail.tail.tail
  have hS := errS_of gS h.tail.tail.tail.tail
  exact ⟨hT, hS.1, hR.1, ⟨ty, lk, hh⟩, hT.2, hS.2, hR.2, lt_of_heap hh⟩

end Go.Proofs.YticjilkcobpcjaaDoor
