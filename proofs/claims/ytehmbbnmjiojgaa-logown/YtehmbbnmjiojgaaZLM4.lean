/-
  What a log of one's own tells.
-/
import Derived.Test.YtehmbbnmjiojgaaZLM2
set_option linter.unusedSimpArgs false
set_option linter.unusedVariables false
namespace Go.Proofs.Ytehmbbnmjiojgaa
open Go.RowKit Go.Lib

theorem KVector_in {w W : World} {b : Nat} {base hv : List (Int × Int)} {os : List Opn} (h : KS w W b base hv os) :
    Calls Try.prog 10 #[.pointer (some ⟨b, 0, none⟩)] W fun e W' => ∃ a c, e = .returned (.slice a hv.length c) ∧ RI W' (.slice a hv.length c) hv ∧ Below W.heap.size W W' := by
  obtain ⟨P, hL, hP, hb⟩ := h
  refine (Vector_in hL).mono ?_
  rintro e W' ⟨v', rfl, ho, hb'⟩
  obtain ⟨a, c, rfl⟩ := ho.form
  exact ⟨a, c, rfl, ho.row, hb'⟩
theorem KBase_in {w W : World} {b : Nat} {base hv : List (Int × Int)} {os : List Opn} (h : KS w W b base hv os) :
    Calls Try.prog 11 #[.pointer (some ⟨b, 0, none⟩)] W fun e W' => ∃ a c, e = .returned (.slice a base.length c) ∧ RI W' (.slice a base.length c) base ∧ Below W.heap.size W W' := by
  obtain ⟨P, hL, hP, hb⟩ := h
  refine (Base_in hL).mono ?_
  rintro e W' ⟨v', rfl, ho, hb'⟩
  obtain ⟨a, c, rfl⟩ := ho.form
  exact ⟨a, c, rfl, ho.row, hb'⟩
theorem KLen_in {w W : World} {b : Nat} {base hv : List (Int × Int)} {os : List Opn} (h : KS w W b base hv os) :
    Calls Try.prog 18 #[.pointer (some ⟨b, 0, none⟩)] W fun e W' => e = .returned (.int .i64 (os.length : Nat)) ∧ W = W' := by
  obtain ⟨P, hL, hP, hb⟩ := h
  exact Len_in hL
theorem IT.lt {P : Nat → Prop} {W : World} {nb : Nat} {os : List Opn} (h : IT P W nb os) : IT (fun i => i < W.heap.size) W nb os := by
  obtain ⟨v, ops, h, e⟩ := h
  have h' := h.lt
  exact ⟨v, ops, ⟨h'.box, h'.row, fun e he => (h'.re e he).mono (fun i hi => hi.2), h'.pn.2, fun k hk => (h'.pv k hk).2, h'.len⟩, e⟩
theorem KBeyond_in {w W : World} {b : Nat} {base hv : List (Int × Int)} {os : List Opn} (h : KS w W b base hv os) (hn : os.length ≤ 1000000) (a : Option Addr) (n c : Nat) (l : List (Int × Int)) (hr : RI W (.slice a n c) l) (hl : l.length ≤ 1000000) :
    Calls Try.prog 8 #[.pointer (some ⟨b, 0, none⟩), .slice a n c] W fun e W' => e = .returned (itV W.heap.size) ∧ IT (fun i => i < W'.heap.size) W' W.heap.size (bynd l os) ∧ Below W.heap.size W W' := by
  obtain ⟨P, hL, hP, hb⟩ := h
  refine (Beyond_in hL hn _ l hr hl).mono ?_
  rintro e W' ⟨h1, h2, h3⟩
  exact ⟨h1, h2.lt, h3⟩
theorem Krest_in {W : World} {nb : Nat} {os : List Opn} (h : IT (fun i => i < W.heap.size) W nb os) (most : Int) (hm : (os.length : Int) < most) :
    Calls Try.prog 7 #[itV nb, .int .i64 most] W fun e W' => ∃ a c, e = .returned (.slice a os.length c) ∧ RL (fun i => W.heap.size ≤ i) W' (.slice a os.length c) os ∧ Below W.heap.size W W' := by
  refine (rest_in h (fun i hi => hi) most hm).mono ?_
  rintro e W' ⟨v', rfl, hr, hb⟩
  obtain ⟨ops, h1, h2, h3, h4⟩ := hr
  obtain ⟨a, c, rfl⟩ := owns_form h1
  have hl : ops.length = os.length := by rw [← h4, List.length_map]
  refine ⟨a, c, by rw [hl], ⟨ops, by rw [← hl]; exact h1, h2, fun k hk => h3 k (by rw [hl]; exact hk), h4⟩, hb⟩

theorem ST.beyond {base hv : List (Int × Int)} {os : List Opn} (h : ST base hv os) {l : List (Int × Int)} (hc : chk l = 0) {both to : List (Int × Int)} (e1 : vec (mrg (sy l) (sy base)) = both) (e2 : vec (mrg (sy both) (sy hv)) = to) : chk both = 0 ∧ chk to = 0 ∧ SQ (sy both) (bynd l os) (sy to) := by
  subst e1
  have g1 := (sy_good l).mrg (sy_good base)
  rw [sy_vec g1] at e2 ⊢
  have g2 := g1.mrg (sy_good hv)
  subst e2
  rw [sy_vec g2]
  refine ⟨chk_vec g1, chk_vec g2, ?_⟩
  unfold bynd
  rw [if_pos hc]
  have := h.sq.cut l (sy_good base)
  rw [mrg_comm (sy base)] at this
  have e : mrg (mrg (sy l) (sy base)) (sy hv) = mrg (sy hv) (sy l) := by
    funext i
    have := h.sq.le i
    unfold mrg
    omega
  rw [e]
  exact this
theorem sum_in (l : List (Int × Int)) : 0 ≤ sum (sy l) ∧ sum (sy l) ≤ 36507222016 := by
  have := sumN_in (sy_good l) 17
  unfold sum
  omega

end Go.Proofs.Ytehmbbnmjiojgaa
