/-
  The outer walk, whole.
-/
import Derived.Test.YtijjoikeceechaaGreatZLBB
import Derived.Test.YtijjoikeceechaaGreatZXLB4
set_option linter.unusedSimpArgs false
set_option linter.unusedVariables false
namespace Go.Proofs.YtijjoikeceechaaGreat
open Go.RowKit Go.Lib

theorem outer_in {w W : World} {Z D : Nat → Prop} {b k1 k2 k3 k4 k5 k6 k7 k8 nb : Nat} {aw am : Option Addr} {cw len4 cap4 : Nat} {v : Value} {stop : Int} {BY : List Opn} {ops : List (Opn × Value × Value)} (mm : List Stp) (hmm : RC w (.slice am len4 cap4) mm.length (flat encS mm)) (hml : mm.length = len4) (hm20 : len4 ≤ 20) (hst : ∀ e ∈ mm, StW w e) (hsm : ∀ s ∈ mm, s.op.text.size ≤ 60000 ∧ s.op.deps.length ≤ 60000 ∧ s.op.gone.length ≤ 60000 ∧ s.vec.length ≤ 60000) (h : JO w Z D b k1 k2 k3 k4 k5 k6 k7 k8 nb (.slice aw BY.length cw) (.slice am len4 cap4) v stop BY ops 0 W) (hl : BY.length ≤ 1000000) :
    Calls Tryz.prog 40 #[.func (.func 16) #[] #[.pointer (some ⟨k1, 0, none⟩), .pointer (some ⟨k2, 0, none⟩), .pointer (some ⟨k3, 0, none⟩), .pointer (some ⟨k4, 0, none⟩), .pointer (some ⟨k5, 0, none⟩), .pointer (some ⟨k6, 0, none⟩), .pointer (some ⟨k7, 0, none⟩), .pointer (some ⟨k8, 0, none⟩)], .pointer (some ⟨nb, 0, none⟩)] W fun e W' => e = .returned (.tuple #[]) ∧ JO w Z D b k1 k2 k3 k4 k5 k6 k7 k8 nb (.slice aw BY.length cw) (.slice am len4 cap4) v stop BY ops BY.length W' := by
  have heq := h.bs.eq
  refine (byd_clo 16 _ D nb v ops (fun pre W => JO w Z D b k1 k2 k3 k4 k5 k6 k7 k8 nb (.slice aw BY.length cw) (.slice am len4 cap4) v stop BY ops pre.length W) (fun _ _ => False) W (enters_of Tryz.func16 (by kernel_rfl) rfl) (fun pre W1 W2 h hb => h.below hb) (fun pre W1 h => h.bs.it)
    (fun pre o rest Wc W1 a1 c1 a2 c2 hp h hb hd hg s1 s2 s3 => ?_) h).mono ?_
  · have ho : BY[pre.length]? = some o := by rw [← heq, ← hp]; simp
    refine (outer1_in mm hmm hml hm20 hst hsm h hb o ho a1 a2 c1 c2 hd hg s1 s2 hl).mono ?_
    rintro e W' ⟨rfl, hj⟩
    have hlen : (pre ++ [o]).length = pre.length + 1 := by simp
    refine ⟨true, rfl, ?_⟩
    simp only [if_true]
    rw [hlen]
    exact hj
  · rintro e W' ⟨rfl, (h | ⟨_, _, _, h⟩)⟩
    · exact ⟨rfl, by rw [heq] at h; exact h⟩
    · exact h.elim

end Go.Proofs.YtijjoikeceechaaGreat
