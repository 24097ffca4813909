/-
  What the document's own rule answers between two runes, by the classes of a text.
-/
import Derived.Test.YtiakhpfljjfaeaaZRBt
set_option linter.unusedSimpArgs false
set_option linter.unusedVariables false
namespace Go.Proofs.Ytiakhpfljjfaeaa
open Go.RowKit Go.Lib

set_option maxRecDepth 100000 in
set_option maxHeartbeats 4000000 in
theorem between_in (v : Value) (zs : List Int) (i : Nat) (a b : Int) (w : World) (h : RK .i64 w v zs) (hi : i + 1 < zs.length) (hl : zs.length ≤ 1000000000) (ha : zs[i]? = some a) (hb : zs[i + 1]? = some b) :
    Calls Try.prog 61 #[v, .int .i64 i] w fun e w' => e = .returned (.bool (bk (zs.take i).reverse a b)) ∧ w' = w := by
  have hj := fun w' => joined_in v zs i w'
  have ho := fun w' => odd_in v zs i w'
  rw [take_rev ha] at ho
  have hr : RK .i64 w v zs := h
  rcases h with ⟨rfl, x, cap, rfl⟩ | ⟨g, off, cap, rfl, hc⟩
  · cases hi
  · have Hj := hide (hj w hr (by omega) hl)
    have Ho := hide (ho w hr (by omega) hl)
    have c1 := hc i (by omega)
    have c2 := hc (i + 1) hi
    rw [ha] at c1
    rw [hb] at c2
    simp only [Option.getD_some] at c1 c2
    clear hj ho hr hc ha hb
    generalize (zs.take i).reverse = R at *
    generalize zs.length = L at *
    have i1 : (i : Int) < (L : Int) := by omega
    have i2 : (0 : Int) ≤ (i : Int) := by omega
    have i3 : (i : Int) + 1 < (L : Int) := by omega
    go_enter Try.func61, Try.ntmps61
    go_wp2_with (first | (go_at_call 66; refine (hard_in _ _).mono ?_; rintro e w' ⟨rfl, rfl⟩) | (go_at_call 67; refine (unhide Hj).mono ?_; rintro e w' ⟨rfl, rfl⟩) | (go_at_call 68; refine (unhide Ho).mono ?_; rintro e w' ⟨rfl, rfl⟩))
    all_goals (go_ret; refine ⟨?_, rfl⟩; congr 2; clear Hj Ho c1 c2; unfold bk; simp_all [hardC, hang, evR])

end Go.Proofs.Ytiakhpfljjfaeaa
