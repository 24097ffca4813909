/-
  Which function a kind's method is.
-/
import Derived.Test.YtehmbbnmjiojgaaZXO1
set_option linter.unusedSimpArgs false
set_option linter.unusedVariables false
namespace Go.Proofs.Ytehmbbnmjiojgaa
open Go.RowKit Go.Lib

theorem ins_meth {s0 s1 s2 s3 s4 : String} {t0 t1 t2 t3 t4 : TypeId} (h : Try.prog.underlying 78 = some (.interface #[(s0, t0), (s1, t1), (s2, t2), (s3, t3), (s4, t4)])) :
    (∀ v w, (method 242 84 v s0).run Try.prog w = .ok (63, v) w) ∧ (∀ v w, (method 242 84 v s1).run Try.prog w = .ok (64, v) w) ∧ (∀ v w, (method 242 84 v s2).run Try.prog w = .ok (65, v) w) ∧ (∀ v w, (method 242 84 v s3).run Try.prog w = .ok (66, v) w) ∧ (∀ v w, (method 242 84 v s4).run Try.prog w = .ok (67, v) w) := by
  have e := Try.underlying78.symm.trans h
  simp at e
  obtain ⟨⟨rfl, rfl⟩, ⟨rfl, rfl⟩, ⟨rfl, rfl⟩, ⟨rfl, rfl⟩, rfl, rfl⟩ := e
  refine ⟨fun v w => ?_, fun v w => ?_, fun v w => ?_, fun v w => ?_, fun v w => ?_⟩ <;> kernel_rfl
theorem del_meth {s0 s1 s2 s3 s4 : String} {t0 t1 t2 t3 t4 : TypeId} (h : Try.prog.underlying 78 = some (.interface #[(s0, t0), (s1, t1), (s2, t2), (s3, t3), (s4, t4)])) :
    (∀ v w, (method 242 86 v s0).run Try.prog w = .ok (85, v) w) ∧ (∀ v w, (method 242 86 v s1).run Try.prog w = .ok (86, v) w) ∧ (∀ v w, (method 242 86 v s2).run Try.prog w = .ok (87, v) w) ∧ (∀ v w, (method 242 86 v s3).run Try.prog w = .ok (88, v) w) ∧ (∀ v w, (method 242 86 v s4).run Try.prog w = .ok (89, v) w) := by
  have e := Try.underlying78.symm.trans h
  simp at e
  obtain ⟨⟨rfl, rfl⟩, ⟨rfl, rfl⟩, ⟨rfl, rfl⟩, ⟨rfl, rfl⟩, rfl, rfl⟩ := e
  refine ⟨fun v w => ?_, fun v w => ?_, fun v w => ?_, fun v w => ?_, fun v w => ?_⟩ <;> kernel_rfl
theorem joi_meth {s0 s1 s2 s3 s4 : String} {t0 t1 t2 t3 t4 : TypeId} (h : Try.prog.underlying 78 = some (.interface #[(s0, t0), (s1, t1), (s2, t2), (s3, t3), (s4, t4)])) :
    (∀ v w, (method 242 88 v s0).run Try.prog w = .ok (90, v) w) ∧ (∀ v w, (method 242 88 v s1).run Try.prog w = .ok (91, v) w) ∧ (∀ v w, (method 242 88 v s2).run Try.prog w = .ok (92, v) w) ∧ (∀ v w, (method 242 88 v s3).run Try.prog w = .ok (93, v) w) ∧ (∀ v w, (method 242 88 v s4).run Try.prog w = .ok (94, v) w) := by
  have e := Try.underlying78.symm.trans h
  simp at e
  obtain ⟨⟨rfl, rfl⟩, ⟨rfl, rfl⟩, ⟨rfl, rfl⟩, ⟨rfl, rfl⟩, rfl, rfl⟩ := e
  refine ⟨fun v w => ?_, fun v w => ?_, fun v w => ?_, fun v w => ?_, fun v w => ?_⟩ <;> kernel_rfl
theorem lea_meth {s0 s1 s2 s3 s4 : String} {t0 t1 t2 t3 t4 : TypeId} (h : Try.prog.underlying 78 = some (.interface #[(s0, t0), (s1, t1), (s2, t2), (s3, t3), (s4, t4)])) :
    (∀ v w, (method 242 90 v s0).run Try.prog w = .ok (95, v) w) ∧ (∀ v w, (method 242 90 v s1).run Try.prog w = .ok (96, v) w) ∧ (∀ v w, (method 242 90 v s2).run Try.prog w = .ok (97, v) w) ∧ (∀ v w, (method 242 90 v s3).run Try.prog w = .ok (98, v) w) ∧ (∀ v w, (method 242 90 v s4).run Try.prog w = .ok (99, v) w) := by
  have e := Try.underlying78.symm.trans h
  simp at e
  obtain ⟨⟨rfl, rfl⟩, ⟨rfl, rfl⟩, ⟨rfl, rfl⟩, ⟨rfl, rfl⟩, rfl, rfl⟩ := e
  refine ⟨fun v w => ?_, fun v w => ?_, fun v w => ?_, fun v w => ?_, fun v w => ?_⟩ <;> kernel_rfl

end Go.Proofs.Ytehmbbnmjiojgaa
