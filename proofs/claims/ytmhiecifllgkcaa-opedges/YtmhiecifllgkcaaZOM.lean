/-
  Which function a kind's method is.
-/
import Derived.Test.YtmhiecifllgkcaaZXO1
set_option linter.unusedSimpArgs false
set_option linter.unusedVariables false
namespace Go.Proofs.Ytmhiecifllgkcaa
open Go.RowKit Go.Lib

theorem ins_meth {s0 s1 s2 s3 s4 : String} {t0 t1 t2 t3 t4 : TypeId} (h : Try.prog.underlying 40 = some (.interface #[(s0, t0), (s1, t1), (s2, t2), (s3, t3), (s4, t4)])) :
    (∀ v w, (method 239 55 v s0).run Try.prog w = .ok (62, v) w) ∧ (∀ v w, (method 239 55 v s1).run Try.prog w = .ok (63, v) w) ∧ (∀ v w, (method 239 55 v s2).run Try.prog w = .ok (64, v) w) ∧ (∀ v w, (method 239 55 v s3).run Try.prog w = .ok (65, v) w) ∧ (∀ v w, (method 239 55 v s4).run Try.prog w = .ok (66, v) w) := by
  have e := Try.underlying40.symm.trans h
  simp at e
  obtain ⟨⟨rfl, rfl⟩, ⟨rfl, rfl⟩, ⟨rfl, rfl⟩, ⟨rfl, rfl⟩, rfl, rfl⟩ := e
  refine ⟨fun v w => ?_, fun v w => ?_, fun v w => ?_, fun v w => ?_, fun v w => ?_⟩ <;> kernel_rfl
theorem del_meth {s0 s1 s2 s3 s4 : String} {t0 t1 t2 t3 t4 : TypeId} (h : Try.prog.underlying 40 = some (.interface #[(s0, t0), (s1, t1), (s2, t2), (s3, t3), (s4, t4)])) :
    (∀ v w, (method 239 57 v s0).run Try.prog w = .ok (88, v) w) ∧ (∀ v w, (method 239 57 v s1).run Try.prog w = .ok (89, v) w) ∧ (∀ v w, (method 239 57 v s2).run Try.prog w = .ok (90, v) w) ∧ (∀ v w, (method 239 57 v s3).run Try.prog w = .ok (91, v) w) ∧ (∀ v w, (method 239 57 v s4).run Try.prog w = .ok (92, v) w) := by
  have e := Try.underlying40.symm.trans h
  simp at e
  obtain ⟨⟨rfl, rfl⟩, ⟨rfl, rfl⟩, ⟨rfl, rfl⟩, ⟨rfl, rfl⟩, rfl, rfl⟩ := e
  refine ⟨fun v w => ?_, fun v w => ?_, fun v w => ?_, fun v w => ?_, fun v w => ?_⟩ <;> kernel_rfl
theorem joi_meth {s0 s1 s2 s3 s4 : String} {t0 t1 t2 t3 t4 : TypeId} (h : Try.prog.underlying 40 = some (.interface #[(s0, t0), (s1, t1), (s2, t2), (s3, t3), (s4, t4)])) :
    (∀ v w, (method 239 59 v s0).run Try.prog w = .ok (94, v) w) ∧ (∀ v w, (method 239 59 v s1).run Try.prog w = .ok (95, v) w) ∧ (∀ v w, (method 239 59 v s2).run Try.prog w = .ok (96, v) w) ∧ (∀ v w, (method 239 59 v s3).run Try.prog w = .ok (97, v) w) ∧ (∀ v w, (method 239 59 v s4).run Try.prog w = .ok (98, v) w) := by
  have e := Try.underlying40.symm.trans h
  simp at e
  obtain ⟨⟨rfl, rfl⟩, ⟨rfl, rfl⟩, ⟨rfl, rfl⟩, ⟨rfl, rfl⟩, rfl, rfl⟩ := e
  refine ⟨fun v w => ?_, fun v w => ?_, fun v w => ?_, fun v w => ?_, fun v w => ?_⟩ <;> kernel_rfl
theorem lea_meth {s0 s1 s2 s3 s4 : String} {t0 t1 t2 t3 t4 : TypeId} (h : Try.prog.underlying 40 = some (.interface #[(s0, t0), (s1, t1), (s2, t2), (s3, t3), (s4, t4)])) :
    (∀ v w, (method 239 61 v s0).run Try.prog w = .ok (99, v) w) ∧ (∀ v w, (method 239 61 v s1).run Try.prog w = .ok (100, v) w) ∧ (∀ v w, (method 239 61 v s2).run Try.prog w = .ok (101, v) w) ∧ (∀ v w, (method 239 61 v s3).run Try.prog w = .ok (102, v) w) ∧ (∀ v w, (method 239 61 v s4).run Try.prog w = .ok (103, v) w) := by
  have e := Try.underlying40.symm.trans h
  simp at e
  obtain ⟨⟨rfl, rfl⟩, ⟨rfl, rfl⟩, ⟨rfl, rfl⟩, ⟨rfl, rfl⟩, rfl, rfl⟩ := e
  refine ⟨fun v w => ?_, fun v w => ?_, fun v w => ?_, fun v w => ?_, fun v w => ?_⟩ <;> kernel_rfl

end Go.Proofs.Ytmhiecifllgkcaa
