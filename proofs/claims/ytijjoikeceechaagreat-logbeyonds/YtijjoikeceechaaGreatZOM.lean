/-
  Which function a kind's method is.
-/
import Derived.Test.YtijjoikeceechaaGreatZXO1
set_option linter.unusedSimpArgs false
set_option linter.unusedVariables false
namespace Go.Proofs.YtijjoikeceechaaGreat
open Go.RowKit Go.Lib

theorem ins_meth {s0 s1 s2 s3 s4 : String} {t0 t1 t2 t3 t4 : TypeId} (h : Tryz.prog.underlying 94 = some (.interface #[(s0, t0), (s1, t1), (s2, t2), (s3, t3), (s4, t4)])) :
    (∀ v w, (method 271 104 v s0).run Tryz.prog w = .ok (99, v) w) ∧ (∀ v w, (method 271 104 v s1).run Tryz.prog w = .ok (100, v) w) ∧ (∀ v w, (method 271 104 v s2).run Tryz.prog w = .ok (101, v) w) ∧ (∀ v w, (method 271 104 v s3).run Tryz.prog w = .ok (102, v) w) ∧ (∀ v w, (method 271 104 v s4).run Tryz.prog w = .ok (103, v) w) := by
  have e := Tryz.underlying94.symm.trans h
  simp at e
  obtain ⟨⟨rfl, rfl⟩, ⟨rfl, rfl⟩, ⟨rfl, rfl⟩, ⟨rfl, rfl⟩, rfl, rfl⟩ := e
  refine ⟨fun v w => ?_, fun v w => ?_, fun v w => ?_, fun v w => ?_, fun v w => ?_⟩ <;> kernel_rfl
theorem del_meth {s0 s1 s2 s3 s4 : String} {t0 t1 t2 t3 t4 : TypeId} (h : Tryz.prog.underlying 94 = some (.interface #[(s0, t0), (s1, t1), (s2, t2), (s3, t3), (s4, t4)])) :
    (∀ v w, (method 271 106 v s0).run Tryz.prog w = .ok (121, v) w) ∧ (∀ v w, (method 271 106 v s1).run Tryz.prog w = .ok (122, v) w) ∧ (∀ v w, (method 271 106 v s2).run Tryz.prog w = .ok (123, v) w) ∧ (∀ v w, (method 271 106 v s3).run Tryz.prog w = .ok (124, v) w) ∧ (∀ v w, (method 271 106 v s4).run Tryz.prog w = .ok (125, v) w) := by
  have e := Tryz.underlying94.symm.trans h
  simp at e
  obtain ⟨⟨rfl, rfl⟩, ⟨rfl, rfl⟩, ⟨rfl, rfl⟩, ⟨rfl, rfl⟩, rfl, rfl⟩ := e
  refine ⟨fun v w => ?_, fun v w => ?_, fun v w => ?_, fun v w => ?_, fun v w => ?_⟩ <;> kernel_rfl
theorem joi_meth {s0 s1 s2 s3 s4 : String} {t0 t1 t2 t3 t4 : TypeId} (h : Tryz.prog.underlying 94 = some (.interface #[(s0, t0), (s1, t1), (s2, t2), (s3, t3), (s4, t4)])) :
    (∀ v w, (method 271 108 v s0).run Tryz.prog w = .ok (126, v) w) ∧ (∀ v w, (method 271 108 v s1).run Tryz.prog w = .ok (127, v) w) ∧ (∀ v w, (method 271 108 v s2).run Tryz.prog w = .ok (128, v) w) ∧ (∀ v w, (method 271 108 v s3).run Tryz.prog w = .ok (129, v) w) ∧ (∀ v w, (method 271 108 v s4).run Tryz.prog w = .ok (130, v) w) := by
  have e := Tryz.underlying94.symm.trans h
  simp at e
  obtain ⟨⟨rfl, rfl⟩, ⟨rfl, rfl⟩, ⟨rfl, rfl⟩, ⟨rfl, rfl⟩, rfl, rfl⟩ := e
  refine ⟨fun v w => ?_, fun v w => ?_, fun v w => ?_, fun v w => ?_, fun v w => ?_⟩ <;> kernel_rfl
theorem lea_meth {s0 s1 s2 s3 s4 : String} {t0 t1 t2 t3 t4 : TypeId} (h : Tryz.prog.underlying 94 = some (.interface #[(s0, t0), (s1, t1), (s2, t2), (s3, t3), (s4, t4)])) :
    (∀ v w, (method 271 110 v s0).run Tryz.prog w = .ok (131, v) w) ∧ (∀ v w, (method 271 110 v s1).run Tryz.prog w = .ok (132, v) w) ∧ (∀ v w, (method 271 110 v s2).run Tryz.prog w = .ok (133, v) w) ∧ (∀ v w, (method 271 110 v s3).run Tryz.prog w = .ok (134, v) w) ∧ (∀ v w, (method 271 110 v s4).run Tryz.prog w = .ok (135, v) w) := by
  have e := Tryz.underlying94.symm.trans h
  simp at e
  obtain ⟨⟨rfl, rfl⟩, ⟨rfl, rfl⟩, ⟨rfl, rfl⟩, ⟨rfl, rfl⟩, rfl, rfl⟩ := e
  refine ⟨fun v w => ?_, fun v w => ?_, fun v w => ?_, fun v w => ?_, fun v w => ?_⟩ <;> kernel_rfl

end Go.Proofs.YtijjoikeceechaaGreat
