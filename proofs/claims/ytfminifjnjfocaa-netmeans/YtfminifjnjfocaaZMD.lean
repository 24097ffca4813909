/-
  NetMeans: from step to step, pure; without a step's box.
-/
import Derived.Test.YtfminifjnjfocaaZMC
set_option linter.unusedSimpArgs false
set_option linter.unusedVariables false
namespace Go.Proofs.Ytfminifjnjfocaa
open Go.RowKit Go.Lib

variable {P N S S' : Nat → Prop} {w W W' V V' Y : World} {b p f m B q : Nat} {c : Cp} {s s' : Stn} {v u vb vt : Value} {Lb L : List (Cp × Value)} {Th : List Bool} {x x' : Stp} {e : Ending} {Bk : List Cp}
structure M0 (w : World) (S : Nat → Prop) (W : World) (b : Nat) (s : Stn) (vb vt : Value) (Lb : List (Cp × Value)) (Th : List Bool) : Prop where
  kn : KN w S W b s
  br : BR w W w.heap.size vb Lb
  bt : BT W w.heap.size vt Th
  nb : ∀ i, vb.ownBlock = some i → ¬ S i
  nt : ∀ i, vt.ownBlock = some i → ¬ S i
theorem MK.m0 (h : MK w q x S W b s vb vt Lb Th) : M0 w S W b s vb vt Lb Th := ⟨h.kn, h.br, h.bt, h.nb, h.nt⟩
theorem M0.box (h : M0 w S W b s vb vt Lb Th) (hb : Below W.heap.size W Y) (hx : Bx Y W.heap.size 32 (stC x)) : MK w W.heap.size x S Y b s vb vt Lb Th := ⟨h.kn.below hb, h.br.kp (N := fun _ => False) (Kp.of_below hb) (fun _ _ e => e), owns_kp h.bt (Kp.of_below (N := fun _ => False) hb) (fun _ _ e => e), h.nb, h.nt, hx, fun e => by have := (h.kn.lo _ e).2; omega⟩
/-- nothing new -/
theorem MI.do0 (h : MI s Bk Th) (gd : Gd s) (hl : s.la ≤ 100) (hN : doN s x = 0) (h2 : x.kind ≠ 2) (h3 : x.kind ≠ 3) : MI (doS s x) Bk Th := by
  have hne : s.la ≠ 2147483647 := by omega
  have hl0 := gd.l0
  unfold doN at hN
  unfold doS
  by_cases k1 : x.kind = 1
  · rw [if_pos k1] at hN ⊢
    unfold sndN at hN
    unfold sndS
    split at hN
    · unfold layN at hN; rw [if_neg hne] at hN; omega
    · rename_i hb; rw [if_neg hb]; exact h
  rw [if_neg k1, if_neg h2, if_neg h3]
  rw [if_neg k1] at hN
  by_cases k4 : x.kind = 4
  · rw [if_pos k4] at hN ⊢
    unfold dblN at hN
    unfold dblS
    split at hN
    · unfold layN at hN; rw [if_neg hne] at hN; omega
    · rename_i hf
      cases hc : fnd s.ls x.num with
      | none => exact h
      | some c => rw [hc] at hf; exact absurd rfl hf
  rw [if_neg k4]
  split
  · exact h.alt gd _ _ _
  split
  · exact h.cut gd _ _
  exact h
/-- a frame was sent -/
theorem do_snd (gd : Gd s) (hl : s.la ≤ 100) (h1 : x.kind = 1) (hN : doN s x ≠ 0) : doN s x = s.la + 1 ∧ doS s x = layS s x.frm x.to x.dat x.at_ := by
  have hne : s.la ≠ 2147483647 := by omega
  unfold doN at hN ⊢
  unfold doS
  rw [if_pos h1] at hN ⊢
  rw [if_pos h1]
  unfold sndN at hN ⊢
  unfold sndS
  split at hN
  · rename_i hb
    rw [if_pos hb, if_pos hb]
    unfold layN
    rw [if_neg hne]
    exact ⟨rfl, rfl⟩
  · exact absurd rfl hN
/-- a copy was made -/
theorem do_dbl (gd : Gd s) (hl : s.la ≤ 100) (h4 : x.kind = 4) (hN : doN s x ≠ 0) : doN s x = s.la + 1 ∧ ∃ c, fnd s.ls x.num = some c ∧ doS s x = layS s c.frm c.to c.cl c.sent := by
  have hne : s.la ≠ 2147483647 := by omega
  have h1 : x.kind ≠ 1 := by omega
  unfold doN at hN ⊢
  unfold doS
  rw [if_neg h1, if_pos h4] at hN ⊢
  rw [if_neg h1, if_neg (by omega), if_neg (by omega), if_pos h4]
  unfold dblN at hN ⊢
  unfold dblS
  cases hc : fnd s.ls x.num with
  | none => rw [hc] at hN; exact absurd rfl hN
  | some c =>
    refine ⟨?_, c, rfl, rfl⟩
    unfold layN
    rw [if_neg hne]
    rfl
theorem do_kinds (hN : doN s x ≠ 0) : x.kind = 1 ∨ x.kind = 4 := by
  unfold doN at hN
  by_cases h1 : x.kind = 1
  · exact .inl h1
  by_cases h4 : x.kind = 4
  · exact .inr h4
  rw [if_neg h1, if_neg h4] at hN
  exact absurd rfl hN
theorem do_tk (h : x.kind = 2 ∨ x.kind = 3) : doS s x = tkS s x.num := by
  unfold doS
  rcases h with h | h
  · rw [if_neg (by omega), if_pos h]
  · rw [if_neg (by omega), if_neg (by omega), if_pos h]
/-- those that were taken are not there -/
theorem MI.took (h : MI s Bk Th) (gd : Gd s) (hk : x.kind = 2 ∨ x.kind = 3) {j : Nat} (hj : x.num = (j : Int) + 1) (hl : j < Bk.length) : MI (doS s x) Bk (Th.set j false) := by
  rw [do_tk hk]
  refine h.tk gd _ (fun i => ?_)
  rw [List.getElem?_set]
  by_cases e : j = i
  · subst e
    rw [if_pos rfl, if_pos hj.symm, if_pos (by rw [h.tl]; exact hl), List.getElem?_eq_getElem (by rw [h.tl]; exact hl)]
    rfl
  · rw [if_neg e, if_neg (by omega)]
theorem MI.took0 (h : MI s Bk Th) (gd : Gd s) (hk : x.kind = 2 ∨ x.kind = 3) (hj : ¬ (1 ≤ x.num ∧ x.num ≤ (Bk.length : Int))) : MI (doS s x) Bk Th := by
  rw [do_tk hk]
  refine h.tk gd _ (fun i => ?_)
  by_cases e : (i : Int) + 1 = x.num
  · rw [if_pos e, List.getElem?_eq_none (by rw [h.tl]; omega)]; rfl
  · rw [if_neg e]

end Go.Proofs.Ytfminifjnjfocaa
