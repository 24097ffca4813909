/-
  Readers: Read.
-/
import Derived.Test.YtmjhkgpbemjjkaaZR2
set_option linter.unusedSimpArgs false
set_option linter.unusedVariables false
namespace Go.Proofs.Ytmjhkgpbemjjkaa
open Go.RowKit Go.Lib

set_option maxRecDepth 100000 in
theorem rRead_in (w : World) (v : Value) (l : List Nat) (h : RC w v l.length (bC l)) (hb : ∀ b ∈ l, b < 256) (hl : l.length ≤ 140737488355328) :
    Calls Try.prog 36 #[v] w fun r W => ∃ p v', r = .returned (.pointer (some ⟨p, 0, none⟩)) ∧ Rd W p v' l 0 ∧ Below w.heap.size w W ∧ w.heap.size ≤ p ∧ (∀ k, v'.ownBlock = some k → w.heap.size ≤ k) := by
  have HC := hide (bClone_in w v l h hl)
  have Hb := hide hb
  obtain ⟨a, c, rfl⟩ := h.form
  clear h hb
  go_enter Try.func36, Try.ntmps36
  go_wp2_with fail
  refine (unhide HC).mono ?_
  rintro r W ⟨v', rfl, hown, hB⟩
  replace hown := hide hown
  replace hB := hide hB
  obtain ⟨a', c', rfl⟩ := owns_form (unhide hown)
  go_wp2
  go_ret
  have o := unhide hown
  refine ⟨_, _, rfl, ⟨Bx.new _ _ _, RC.of_owns (o.alloc _), fun e => ?_, unhide Hb, hl⟩, ballc (unhide hB) _, (unhide hB).size, fun k hk => (o.lt k hk).1⟩
  have := (o.lt _ e).2
  omega

end Go.Proofs.Ytmjhkgpbemjjkaa
