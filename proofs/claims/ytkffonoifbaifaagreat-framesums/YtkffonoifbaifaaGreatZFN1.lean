/-
  Of known's last region: its steps, one by one.
-/
import Derived.Test.YtkffonoifbaifaaGreatZFN0
set_option linter.unusedSimpArgs false
set_option linter.unusedVariables false
namespace Go.Proofs.YtkffonoifbaifaaGreat
open Go.RowKit Go.Lib
namespace Fsx
variable {o : Oper} {ρ : Operand → Value} {w : World} {B : Nat} {v : Value}

theorem mv {x : Nat} (ho : o.op = .move (.tmp x)) (d : ρ (.tmp x) = v) : StepOK Tryz.prog o ρ w (fun u w' => GF B w w' ∧ u = v) :=
  step_move (.tmp x) ho ⟨GF.refl _ _, d⟩
theorem asg {x : Nat} (ho : o.op = .assign (.tmp x)) (d : ρ (.tmp x) = v) : StepOK Tryz.prog o ρ w (fun u w' => GF B w w' ∧ u = v) :=
  step_assign (.tmp x) ho ⟨GF.refl _ _, d⟩
theorem pk {x y : Nat} (ho : o.op = .pick (.tmp x) (.tmp y) (.const (.bool false))) (d : ρ (.tmp x) = .bool true) (d1 : ρ (.tmp y) = .bool true) : StepOK Tryz.prog o ρ w (fun u w' => GF B w w' ∧ u = .bool true) :=
  step_val (v := .bool true) (w' := w) (by unfold execOp; rw [ho]; simp [go_sem, d, d1]) ⟨GF.refl _ _, rfl⟩
theorem eq {t t' x : Nat} {k : IntKind} {n : Int} (hρ : FrameLike ρ) (ho : o.op = .binOp .eql t (.tmp x) (.const (.int k n)) t') (hr : ∀ w, (binOp .eql t (.int k n) (.int k n)).run Tryz.prog w = .ok (.bool true) w) (d : ρ (.tmp x) = .int k n) : StepOK Tryz.prog o ρ w (fun u w' => GF B w w' ∧ u = .bool true) :=
  step_val (v := .bool true) (w' := w) (by unfold execOp; rw [ho]; simp [go_sem, d, hρ.const, hr]) ⟨GF.refl _ _, rfl⟩
theorem ldF {p g : Nat} {cs : Array Value} {t : TypeId} (ho : o.op = .load 39 (.tmp p)) (d : ρ (.tmp p) = .pointer (some ⟨g, 0, none⟩)) (hg : Bx w g t cs) (hs : cs.size = 17) : StepOK Tryz.prog o ρ w (fun u w' => GF B w w' ∧ u = .agg cs) :=
  step_val (v := .agg cs) (w' := w) (by
    unfold execOp
    simp only [ho, d, Instr.loadAt, Instr.sureAddr, Sem.run_bind, Sem.run_pure, Result.andThen_ok, run_loadVar_row w g t 39 cs (0, 0) _ hg Tryz.underlying39 rfl (by rw [hs]; exact sizeF)]) ⟨GF.refl _ _, rfl⟩
end Fsx
end Go.Proofs.YtkffonoifbaifaaGreat
