/-
  Which function a kind's method is.
-/
import Derived.Test.YtbnhfbdfjnigoaaGreatZXO1
set_option linter.unusedSimpArgs false
set_option linter.unusedVariables false
namespace Go.Proofs.YtbnhfbdfjnigoaaGreat
open Go.RowKit Go.Lib

theorem ins_meth {s0 s1 s2 s3 s4 : String} {t0 t1 t2 t3 t4 : TypeId} (h : Tryz.prog.underlying 81 = some (.interface #[(s0, t0), (s1, t1), (s2, t2), (s3, t3), (s4, t4)])) :
    (∀ v w, (method 266 99 v s0).run Tryz.prog w = .ok (86, v) w) ∧ (∀ v w, (method 266 99 v s1).run Tryz.prog w = .ok (87, v) w) ∧ (∀ v w, (method 266 99 v s2).run Tryz.prog w = .ok (88, v) w) ∧ (∀ v w, (method 266 99 v s3).run Tryz.prog w = .ok (89, v) w) ∧ (∀ v w, (method 266 99 v s4).run Tryz.prog w = .ok (90, v) w) := by
  have e := Tryz.underlying81.symm.trans h
  simp at e
  obtain ⟨⟨rfl, rfl⟩, ⟨rfl, rfl⟩, ⟨rfl, rfl⟩, ⟨rfl, rfl⟩, rfl, rfl⟩ := e
  refine ⟨fun v w => ?_, fun v w => ?_, fun v w => ?_, fun v w => ?_, fun v w => ?_⟩ <;> kernel_rfl
theorem del_meth {s0 s1 s2 s3 s4 : String} {t0 t1 t2 t3 t4 : TypeId} (h : Tryz.prog.underlying 81 = some (.interface #[(s0, t0), (s1, t1), (s2, t2), (s3, t3), (s4, t4)])) :
    (∀ v w, (method 266 101 v s0).run Tryz.prog w = .ok (112, v) w) ∧ (∀ v w, (method 266 101 v s1).run Tryz.prog w = .ok (113, v) w) ∧ (∀ v w, (method 266 101 v s2).run Tryz.prog w = .ok (114, v) w) ∧ (∀ v w, (method 266 101 v s3).run Tryz.prog w = .ok (115, v) w) ∧ (∀ v w, (method 266 101 v s4).run Tryz.prog w = .ok (116, v) w) := by
  have e := Tryz.underlying81.symm.trans h
  simp at e
  obtain ⟨⟨rfl, rfl⟩, ⟨rfl, rfl⟩, ⟨rfl, rfl⟩, ⟨rfl, rfl⟩, rfl, rfl⟩ := e
  refine ⟨fun v w => ?_, fun v w => ?_, fun v w => ?_, fun v w => ?_, fun v w => ?_⟩ <;> kernel_rfl
theorem joi_meth {s0 s1 s2 s3 s4 : String} {t0 t1 t2 t3 t4 : TypeId} (h : Tryz.prog.underlying 81 = some (.interface #[(s0, t0), (s1, t1), (s2, t2), (s3, t3), (s4, t4)])) :
    (∀ v w, (method 266 103 v s0).run Tryz.prog w = .ok (118, v) w) ∧ (∀ v w, (method 266 103 v s1).run Tryz.prog w = .ok (119, v) w) ∧ (∀ v w, (method 266 103 v s2).run Tryz.prog w = .ok (120, v) w) ∧ (∀ v w, (method 266 103 v s3).run Tryz.prog w = .ok (121, v) w) ∧ (∀ v w, (method 266 103 v s4).run Tryz.prog w = .ok (122, v) w) := by
  have e := Tryz.underlying81.symm.trans h
  simp at e
  obtain ⟨⟨rfl, rfl⟩, ⟨rfl, rfl⟩, ⟨rfl, rfl⟩, ⟨rfl, rfl⟩, rfl, rfl⟩ := e
  refine ⟨fun v w => ?_, fun v w => ?_, fun v w => ?_, fun v w => ?_, fun v w => ?_⟩ <;> kernel_rfl
theorem lea_meth {s0 s1 s2 s3 s4 : String} {t0 t1 t2 t3 t4 : TypeId} (h : Tryz.prog.underlying 81 = some (.interface #[(s0, t0), (s1, t1), (s2, t2), (s3, t3), (s4, t4)])) :
    (∀ v w, (method 266 105 v s0).run Tryz.prog w = .ok (123, v) w) ∧ (∀ v w, (method 266 105 v s1).run Tryz.prog w = .ok (124, v) w) ∧ (∀ v w, (method 266 105 v s2).run Tryz.prog w = .ok (125, v) w) ∧ (∀ v w, (method 266 105 v s3).run Tryz.prog w = .ok (126, v) w) ∧ (∀ v w, (method 266 105 v s4).run Tryz.prog w = .ok (127, v) w) := by
  have e := Tryz.underlying81.symm.trans h
  simp at e
  obtain ⟨⟨rfl, rfl⟩, ⟨rfl, rfl⟩, ⟨rfl, rfl⟩, ⟨rfl, rfl⟩, rfl, rfl⟩ := e
  refine ⟨fun v w => ?_, fun v w => ?_, fun v w => ?_, fun v w => ?_, fun v w => ?_⟩ <;> kernel_rfl

end Go.Proofs.YtbnhfbdfjnigoaaGreat
