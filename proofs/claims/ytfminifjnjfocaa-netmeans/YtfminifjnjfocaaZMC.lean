/-
  Within NetMeans: the Net, the book, which are there, the step's box.
-/
import Derived.Test.YtfminifjnjfocaaZMB
set_option linter.unusedSimpArgs false
set_option linter.unusedVariables false
namespace Go.Proofs.Ytfminifjnjfocaa
open Go.RowKit Go.Lib

variable {P N S S' : Nat → Prop} {w W W' V V' Y : World} {b p f m B q : Nat} {c : Cp} {s s' : Stn} {v u vb vt : Value} {Lb L : List (Cp × Value)} {Th : List Bool} {x x' : Stp} {e : Ending}
/-- six cells are stored -/
theorem set6g {t : TypeId} {v0 v1 v2 v3 v4 v5 : Value} (h : Bx W b t #[v0, v1, v2, v3, v4, v5]) (u0 u1 u2 u3 u4 u5 : Value) {Y : World} (hY : (((((W.setCell ⟨b, 0, none⟩ u0).setCell ⟨b, 1, none⟩ u1).setCell ⟨b, 2, none⟩ u2).setCell ⟨b, 3, none⟩ u3).setCell ⟨b, 4, none⟩ u4).setCell ⟨b, 5, none⟩ u5 = Y) : Bx Y b t #[u0, u1, u2, u3, u4, u5] ∧ Kp (fun i => i = b) W Y := by
  subst hY
  refine ⟨by simpa using (((((h.set 0 u0).set 1 u1).set 2 u2).set 3 u3).set 4 u4).set 5 u5, ?_⟩
  have k := fun (X : World) (j : Nat) (u : Value) => Kp.set (N := fun i => i = b) X ⟨b, j, none⟩ u rfl
  have t := fun {X Y Z : World} (h1 : Kp (fun i => i = b) X Y) (h2 : Kp (fun i => i = b) Y Z) => h1.trans h2 (fun i hi => .inl hi)
  exact t (t (t (t (t (k _ 0 u0) (k _ 1 u1)) (k _ 2 u2)) (k _ 3 u3)) (k _ 4 u4)) (k _ 5 u5)
/-- a box that is new and written: nothing else changed -/
theorem new6 {t : TypeId} {z0 z1 z2 z3 z4 z5 : Value} {X : World} (hX : W.alloc (.cells #[z0, z1, z2, z3, z4, z5] t) = X) (u0 u1 u2 u3 u4 u5 : Value) {Y : World} (hY : (((((X.setCell ⟨W.heap.size, 0, none⟩ u0).setCell ⟨W.heap.size, 1, none⟩ u1).setCell ⟨W.heap.size, 2, none⟩ u2).setCell ⟨W.heap.size, 3, none⟩ u3).setCell ⟨W.heap.size, 4, none⟩ u4).setCell ⟨W.heap.size, 5, none⟩ u5 = Y) : Bx X W.heap.size t #[z0, z1, z2, z3, z4, z5] ∧ Bx Y W.heap.size t #[u0, u1, u2, u3, u4, u5] ∧ Below W.heap.size W Y := by
  have b1 : Below W.heap.size W X := by rw [← hX]; exact ballc (Below.refl _ _) _
  have bx : Bx X W.heap.size t #[z0, z1, z2, z3, z4, z5] := by rw [← hX]; exact Bx.new _ _ _
  obtain ⟨h1, h2⟩ := set6g bx _ _ _ _ _ _ hY
  exact ⟨bx, h1, h2.below b1 (fun i e => by omega)⟩
structure MK (w : World) (q : Nat) (x : Stp) (S : Nat → Prop) (W : World) (b : Nat) (s : Stn) (vb vt : Value) (Lb : List (Cp × Value)) (Th : List Bool) : Prop where
  kn : KN w S W b s
  br : BR w W w.heap.size vb Lb
  bt : BT W w.heap.size vt Th
  nb : ∀ i, vb.ownBlock = some i → ¬ S i
  nt : ∀ i, vt.ownBlock = some i → ¬ S i
  bo : Bx W q 32 (stC x)
  ns : ¬ S q
theorem MK.below (h : MK w q x S W b s vb vt Lb Th) (hb : Below W.heap.size W W') : MK w q x S W' b s vb vt Lb Th := ⟨h.kn.below hb, h.br.kp (N := fun _ => False) (Kp.of_below hb) (fun _ _ e => e), owns_kp h.bt (Kp.of_below (N := fun _ => False) hb) (fun _ _ e => e), h.nb, h.nt, h.bo.below hb, h.ns⟩
theorem MK.lb (h : MK w q x S W b s vb vt Lb Th) : ∀ i, vb.ownBlock = some i → i < W.heap.size := fun i hi => (World.ownsRow.lt h.br.row i hi).2
theorem MK.lt (h : MK w q x S W b s vb vt Lb Th) : ∀ i, vt.ownBlock = some i → i < W.heap.size := fun i hi => (World.ownsRow.lt h.bt i hi).2
theorem ownTy {W : World} {B E k n : Nat} {v : Value} {C : List Value} (h : W.ownsRow B E k v n C) : ∀ i, v.ownBlock = some i → ∃ cur, Bx W i E cur := fun i hi => by
  rcases h.2 with ⟨rfl, _⟩ | ⟨g, cap, cur, rfl, _, hg, _⟩
  · cases hi
  · cases hi; exact ⟨cur, hg⟩
theorem MK.call (h : MK w q x S W b s vb vt Lb Th) (hc : CN S W b s' u e W') : e = .returned u ∧ ∃ S', MK w q x S' W' b s' vb vt Lb Th := by
  obtain ⟨h1, S', k, d⟩ := h.kn.call hc
  have hb := h.lb
  have ht := h.lt
  have g := d.gr
  refine ⟨h1, S', k, h.br.kp d.kp h.nb, owns_kp h.bt d.kp h.nt, fun i hi e => ?_, fun i hi e => ?_, (h.bo.dn d h.ns).1, (h.bo.dn d h.ns).2⟩
  · rcases g i e with e | e
    · exact h.nb i hi e
    · have := hb i hi; omega
  · rcases g i e with e | e
    · exact h.nt i hi e
    · have := ht i hi; omega
/-- a frame more in the book -/
theorem MK.more (h : MK w q x S W b s vb vt Lb Th) {y : Cp × Value} (hy : RB w y.2 y.1.cl ∧ y.1.cl.length ≤ 60000) (hl : Lb.length ≤ 1000) (ht : Th.length ≤ 1000) (ty ty' : TypeId) : ∃ a k Y a' k' Y2, (Builtin.append_ #[52, 52] ty #[vb, .slice (some ⟨W.heap.size, 0, none⟩) 1 1]).run Try.prog (W.alloc (.cells (encC y).toArray 56)) = .ok (.slice a (Lb.length + 1) k) Y ∧ (Builtin.append_ #[53, 53] ty' #[vt, .slice (some ⟨Y.heap.size, 0, none⟩) 1 1]).run Try.prog (Y.alloc (.cells #[.bool true] 4)) = .ok (.slice a' (Th.length + 1) k') Y2 ∧ MK w q x S Y2 b s (.slice a (Lb.length + 1) k) (.slice a' (Th.length + 1) k') (Lb ++ [y]) (Th ++ [true]) := by
  have hz := h.kn.bel.size
  obtain ⟨a, k, Y, h1, h2, h3, h4⟩ := h.br.push hz hy hl ty rfl
  have hz1 := h3.size
  have bt1 : BT Y w.heap.size vt Th := owns_kp h.bt h3 (fun i hi e => by
    obtain ⟨c1, e1⟩ := ownTy h.bt i hi
    obtain ⟨c2, e2⟩ := ownTy h.br.row i e
    exact e1.apart e2 (by decide) rfl)
  obtain ⟨a', k', Y2, g1, g2, g3, g4⟩ := bt1.push (by omega) true ht ty' rfl
  have nbW : ∀ i, vb.ownBlock = some i → ¬ S i := h.nb
  have br2 : BR w Y2 w.heap.size (.slice a (Lb.length + 1) k) (Lb ++ [y]) := h2.kp g3 (fun i hi e => by
    obtain ⟨c1, e1⟩ := ownTy h2.row i hi
    obtain ⟨c2, e2⟩ := ownTy bt1 i e
    exact e1.apart e2 (by decide) rfl)
  refine ⟨a, k, Y, a', k', Y2, h1, g1, ⟨?_, br2, g2, fun i hi e => ?_, fun i hi e => ?_, ?_, h.ns⟩⟩
  · refine ⟨(h.kn.nl.kp h3 (fun i e hi => h.nb i e hi)).kp g3 (fun i e hi => h.nt i e hi), fun i hi => ⟨(h.kn.lo i hi).1, by have := (h.kn.lo i hi).2; have := g3.size; omega⟩, g3.below (h3.below h.kn.bel (fun i hi => (World.ownsRow.lt h.br.row i hi).1)) (fun i hi => (World.ownsRow.lt h.bt i hi).1)⟩
  · rcases h4 i hi with e' | e'
    · exact h.nb i e' e
    · have := (h.kn.lo i e).2; omega
  · rcases g4 i hi with e' | e'
    · exact h.nt i e' e
    · have := (h.kn.lo i e).2; omega
  · refine (h.bo.kp h3 (fun e => ?_)).kp g3 (fun e => ?_)
    · obtain ⟨c2, e2⟩ := ownTy h.br.row _ e
      exact h.bo.apart e2 (by decide) rfl
    · obtain ⟨c2, e2⟩ := ownTy h.bt _ e
      exact h.bo.apart e2 (by decide) rfl
/-- one is not there any more -/
theorem MK.off {a : Option Addr} {n k j : Nat} (h : MK w q x S W b s vb (.slice a n k) Lb Th) {t : Bool} (hj : Th[j]? = some t) : ∃ g, a = some ⟨g, 0, none⟩ ∧ W.cell? ⟨g, j, none⟩ = some (.bool t) ∧ W.frozen? ⟨g, j, none⟩ = false ∧ MK w q x S (W.setCell ⟨g, j, none⟩ (.bool false)) b s vb (.slice a n k) Lb (Th.set j false) := by
  obtain ⟨g, rfl, hB, h1, h2, h3⟩ := h.bt.at hj
  have kY : Kp (fun i => i = g) W (W.setCell ⟨g, j, none⟩ (.bool false)) := Kp.set _ ⟨g, j, none⟩ _ rfl
  obtain ⟨c1, e1⟩ := ownTy h.bt g rfl
  refine ⟨g, rfl, h1, h2, ⟨⟨h.kn.nl.kp kY (fun i e hi => h.nt g rfl (e ▸ hi)), fun i hi => ⟨(h.kn.lo i hi).1, by have := (h.kn.lo i hi).2; have := kY.size; omega⟩, kY.below h.kn.bel (fun i e => by omega)⟩, h.br.kp kY (fun i hi e => ?_), h3, h.nb, h.nt, h.bo.kp kY (fun e => ?_), h.ns⟩⟩
  · obtain ⟨c2, e2⟩ := ownTy h.br.row i hi
    rw [e] at e2
    exact e2.apart e1 (by decide) rfl
  · have := h.bo
    rw [e] at this
    exact this.apart e1 (by decide) rfl

end Go.Proofs.Ytfminifjnjfocaa
