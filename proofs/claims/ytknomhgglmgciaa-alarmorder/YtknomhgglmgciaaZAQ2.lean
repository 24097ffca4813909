/-
  The row of timers by the interface of a heap.
-/
import Derived.Test.YtknomhgglmgciaaZAQ1
set_option linter.unusedSimpArgs false
set_option linter.unusedVariables false
namespace Go.Proofs.Ytknomhgglmgciaa
open Go.RowKit Go.Lib

theorem wrap_chk (ts : Array TypeId) (T : TypeId) (a : Addr) (x y : String) (w : World) : (Builtin.ssaWrapNilChk_ ts T #[.pointer (some a), strVal x, strVal y]).run Try.prog w = .ok (.pointer (some a)) w := rfl
theorem meth_find {T F : Nat} {E : TypeId} {name : String} (hf : (Try.prog.info? T).map (fun i => (i.methods.find? (fun m => m.name == name)).map (fun m => (m.path, m.func))) = some (some (#[], some (F, false)))) (hu : Try.prog.underlying T = some (.pointer E)) {w : World} {a : Addr} {v : Value} (hl : (loadVar E a).run Try.prog w = .ok v w) (n : Nat) : (method (n + 1) T (.pointer (some a)) name).run Try.prog w = .ok (F, v) w := by
  cases hi : Try.prog.info? T with
  | none => rw [hi] at hf; cases hf
  | some i =>
    rw [hi] at hf
    simp only [Option.map_some, Option.some.injEq] at hf
    cases hm : i.methods.find? (fun m => m.name == name) with
    | none => rw [hm] at hf; cases hf
    | some m =>
      rw [hm] at hf
      simp only [Option.map_some, Option.some.injEq, Prod.mk.injEq] at hf
      obtain ⟨h1, h2⟩ := hf
      unfold method
      simp [typeInfo, hi, hm, h1, h2, follow, receiverAt, run_underlying hu, Place.get, wrap_chk, asAddr, hl]
theorem meth_push (x : Value) (w : World) : (method 194 62 x "Push").run Try.prog w = .ok (61, x) w := by kernel_rfl
theorem meth_pop (x : Value) (w : World) : (method 194 62 x "Pop").run Try.prog w = .ok (60, x) w := by kernel_rfl
theorem load_q {w : World} {b : Nat} {v : Value} (h : w.cell? ⟨b, 3, none⟩ = some v) : (loadVar 40 ⟨b, 3, none⟩).run Try.prog w = .ok v w := by
  simp [loadVar, run_underlying Try.underlying40, h, go_sem]
theorem meth_len {w : World} {b : Nat} {v : Value} (h : w.cell? ⟨b, 3, none⟩ = some v) : (method 194 62 (.pointer (some ⟨b, 3, none⟩)) "Len").run Try.prog w = .ok (57, v) w := meth_find (by kernel_rfl) Try.underlying62 (load_q h) _
theorem meth_less {w : World} {b : Nat} {v : Value} (h : w.cell? ⟨b, 3, none⟩ = some v) : (method 194 62 (.pointer (some ⟨b, 3, none⟩)) "Less").run Try.prog w = .ok (58, v) w := meth_find (by kernel_rfl) Try.underlying62 (load_q h) _
theorem meth_swap {w : World} {b : Nat} {v : Value} (h : w.cell? ⟨b, 3, none⟩ = some v) : (method 194 62 (.pointer (some ⟨b, 3, none⟩)) "Swap").run Try.prog w = .ok (59, v) w := meth_find (by kernel_rfl) Try.underlying62 (load_q h) _

end Go.Proofs.Ytknomhgglmgciaa
