/-
  Conversions between texts and runes, in whatever world.
-/
import Derived.Test.YtnejgbjidonpiabRun
import Derived.Test.YtnejgbjidonpiabReg
set_option linter.unusedSimpArgs false
set_option linter.unusedVariables false
namespace Go.Proofs.Ytnejgbjidonpiab
open Go.RowKit Go.Lib Go.Shelf

theorem conv_text (v : Value) (zs : List Int) (w : World) (h : RS w v zs) : (convert 22 9 v).run Try.prog w = .ok (.string (runesBytes zs)) w := by
  rcases h with ⟨rfl, a, cap, rfl⟩ | ⟨b, off, cap, rfl, hc⟩
  · cases a with
    | none => exact run_convert_runes_nil w 22 9 21 0 cap Try.underlying22 Try.underlying21 Try.underlying9
    | some x => exact run_convert_runes w 22 9 21 x 0 cap [] (Nat.le_refl _) Try.underlying22 Try.underlying21 Try.underlying9 (fun j hj => by cases hj)
  · have hcv : (convert 22 9 (.slice (some ⟨b, off, none⟩) zs.length cap)).run Try.prog w = .ok (.string (runesBytes (zs.take zs.length))) w := run_convert_runes w 22 9 21 ⟨b, off, none⟩ zs.length cap zs (Nat.le_refl _) Try.underlying22 Try.underlying21 Try.underlying9 (fun j hj => by
      have := hc j hj
      by_cases hj0 : j = 0
      · subst hj0; simpa [Addr.add, List.getD] using this
      · simpa [Addr.add, List.getD, hj0] using this)
    rw [List.take_length] at hcv
    exact hcv

theorem conv_runes (s : ByteArray) (hs : s.size ≤ 70368744177664) (w : World) :
    ∃ v w', (convert 9 22 (.string s)).run Try.prog w = .ok v w' ∧ RS w' v (runeL s) ∧ Below w.heap.size w w' := by
  have hlen := allL_length s
  have hl2 := runeL_length s
  have hconv := run_runes_of_string (P := Try.prog) w 9 22 21 s Try.underlying9 Try.underlying22 Try.underlying21 (by rw [runesFrom_all]; simp; omega)
  have hsz : (Conv.runesFrom s s.size 0 #[]).size = (runeL s).length := by rw [runesFrom_all]; simp
  rw [hsz] at hconv
  have hcap := grownCap_ge w (runeL s).length 0 21
  have hcl : grownCap w (runeL s).length 0 21 ≤ maxLen := by
    have e : grownCap w (runeL s).length 0 21 = (runeL s).length + (w.tape w.drawn (Question.appendCap (runeL s).length 0 21)) % (2 ^ 63 - (runeL s).length) := rfl
    have h0 : 0 < 2 ^ 63 - (runeL s).length := by omega
    have := Nat.mod_lt (w.tape w.drawn (Question.appendCap (runeL s).length 0 21)) h0
    rw [e]
    unfold maxLen
    omega
  generalize hC : grownCap w (runeL s).length 0 21 = C at hconv hcap hcl
  clear hC
  generalize hR : Conv.runesFrom s s.size 0 #[] ++ Array.replicate (C - (runeL s).length) (Value.int .i32 0) = R at hconv
  have hRs : R.size = C * 1 := by rw [← hR]; simp [hsz]; omega
  have hRt : R.toList.take ((runeL s).length * 1) = (runeL s).map (Value.int .i32) := by rw [← hR, runesFrom_all]; simp
  have hown : (w.drew.alloc (.cells R 21)).ownsRow w.heap.size 21 1 (.slice (some ⟨w.heap.size, 0, none⟩) (runeL s).length C) (runeL s).length ((runeL s).map (Value.int .i32)) :=
    ⟨by simp, .inr ⟨w.heap.size, C, R, rfl, Nat.le_refl _, World.alloc_heap_new w.drew _, hcap, hcl, hRs, hRt⟩⟩
  exact ⟨_, _, hconv, RS.of_owns hown, (Below.refl _ w).drew.alloc (Nat.le_refl _) _⟩

end Go.Proofs.Ytnejgbjidonpiab
