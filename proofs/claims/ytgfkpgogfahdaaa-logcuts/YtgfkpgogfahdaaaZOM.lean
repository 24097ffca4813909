/-
  Which function a kind's method is.
-/
import Derived.Test.YtgfkpgogfahdaaaZXO1
set_option linter.unusedSimpArgs false
set_option linter.unusedVariables false
namespace Go.Proofs.Ytgfkpgogfahdaaa
open Go.RowKit Go.Lib

theorem ins_meth {s0 s1 s2 s3 s4 : String} {t0 t1 t2 t3 t4 : TypeId} (h : Try.prog.underlying 86 = some (.interface #[(s0, t0), (s1, t1), (s2, t2), (s3, t3), (s4, t4)])) :
    (∀ v w, (method 249 91 v s0).run Try.prog w = .ok (73, v) w) ∧ (∀ v w, (method 249 91 v s1).run Try.prog w = .ok (74, v) w) ∧ (∀ v w, (method 249 91 v s2).run Try.prog w = .ok (75, v) w) ∧ (∀ v w, (method 249 91 v s3).run Try.prog w = .ok (76, v) w) ∧ (∀ v w, (method 249 91 v s4).run Try.prog w = .ok (77, v) w) := by
  have e := Try.underlying86.symm.trans h
  simp at e
  obtain ⟨⟨rfl, rfl⟩, ⟨rfl, rfl⟩, ⟨rfl, rfl⟩, ⟨rfl, rfl⟩, rfl, rfl⟩ := e
  refine ⟨fun v w => ?_, fun v w => ?_, fun v w => ?_, fun v w => ?_, fun v w => ?_⟩ <;> kernel_rfl
theorem del_meth {s0 s1 s2 s3 s4 : String} {t0 t1 t2 t3 t4 : TypeId} (h : Try.prog.underlying 86 = some (.interface #[(s0, t0), (s1, t1), (s2, t2), (s3, t3), (s4, t4)])) :
    (∀ v w, (method 249 93 v s0).run Try.prog w = .ok (95, v) w) ∧ (∀ v w, (method 249 93 v s1).run Try.prog w = .ok (96, v) w) ∧ (∀ v w, (method 249 93 v s2).run Try.prog w = .ok (97, v) w) ∧ (∀ v w, (method 249 93 v s3).run Try.prog w = .ok (98, v) w) ∧ (∀ v w, (method 249 93 v s4).run Try.prog w = .ok (99, v) w) := by
  have e := Try.underlying86.symm.trans h
  simp at e
  obtain ⟨⟨rfl, rfl⟩, ⟨rfl, rfl⟩, ⟨rfl, rfl⟩, ⟨rfl, rfl⟩, rfl, rfl⟩ := e
  refine ⟨fun v w => ?_, fun v w => ?_, fun v w => ?_, fun v w => ?_, fun v w => ?_⟩ <;> kernel_rfl
theorem joi_meth {s0 s1 s2 s3 s4 : String} {t0 t1 t2 t3 t4 : TypeId} (h : Try.prog.underlying 86 = some (.interface #[(s0, t0), (s1, t1), (s2, t2), (s3, t3), (s4, t4)])) :
    (∀ v w, (method 249 95 v s0).run Try.prog w = .ok (100, v) w) ∧ (∀ v w, (method 249 95 v s1).run Try.prog w = .ok (101, v) w) ∧ (∀ v w, (method 249 95 v s2).run Try.prog w = .ok (102, v) w) ∧ (∀ v w, (method 249 95 v s3).run Try.prog w = .ok (103, v) w) ∧ (∀ v w, (method 249 95 v s4).run Try.prog w = .ok (104, v) w) := by
  have e := Try.underlying86.symm.trans h
  simp at e
  obtain ⟨⟨rfl, rfl⟩, ⟨rfl, rfl⟩, ⟨rfl, rfl⟩, ⟨rfl, rfl⟩, rfl, rfl⟩ := e
  refine ⟨fun v w => ?_, fun v w => ?_, fun v w => ?_, fun v w => ?_, fun v w => ?_⟩ <;> kernel_rfl
theorem lea_meth {s0 s1 s2 s3 s4 : String} {t0 t1 t2 t3 t4 : TypeId} (h : Try.prog.underlying 86 = some (.interface #[(s0, t0), (s1, t1), (s2, t2), (s3, t3), (s4, t4)])) :
    (∀ v w, (method 249 97 v s0).run Try.prog w = .ok (105, v) w) ∧ (∀ v w, (method 249 97 v s1).run Try.prog w = .ok (106, v) w) ∧ (∀ v w, (method 249 97 v s2).run Try.prog w = .ok (107, v) w) ∧ (∀ v w, (method 249 97 v s3).run Try.prog w = .ok (108, v) w) ∧ (∀ v w, (method 249 97 v s4).run Try.prog w = .ok (109, v) w) := by
  have e := Try.underlying86.symm.trans h
  simp at e
  obtain ⟨⟨rfl, rfl⟩, ⟨rfl, rfl⟩, ⟨rfl, rfl⟩, ⟨rfl, rfl⟩, rfl, rfl⟩ := e
  refine ⟨fun v w => ?_, fun v w => ?_, fun v w => ?_, fun v w => ?_, fun v w => ?_⟩ <;> kernel_rfl

end Go.Proofs.Ytgfkpgogfahdaaa
