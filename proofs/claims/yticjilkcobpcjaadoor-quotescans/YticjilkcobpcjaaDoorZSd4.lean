/-
  Rows of what the document finds.
-/
import Derived.Test.YticjilkcobpcjaaDoorZSd3
import Derived.Test.YticjilkcobpcjaaDoorZWr
set_option linter.unusedSimpArgs false
set_option linter.unusedVariables false
namespace Go.Proofs.YticjilkcobpcjaaDoor
open Go.RowKit Go.Lib

def encF (x : It) : List Value := [.int .i64 (x.w.k : Int), .string x.w.t, .int .i64 x.w.n, .int .i64 (x.w.a : Int), .int .i64 (x.ln : Int), .int .i64 (x.w.e : Int)]
theorem encF_len (x : It) : (encF x).length = 6 := rfl
def OwF (W : World) (B : Nat) (v : Value) (l : List It) : Prop := W.ownsRow B 32 6 v l.length (flat encF l)
theorem infoFd : (Tryd.prog.info? 32).map (fun i => (i.zero, i.size, i.bytes)) = some (some (.agg #[.int .i64 0, .string ⟨#[]⟩, .int .i64 0, .int .i64 0, .int .i64 0, .int .i64 0]), 6, 56) := by kernel_rfl
theorem append_found (w : World) (ty : TypeId) (N : Nat) (v : Value) (l : List It) (x : It) (nb : Nat) (h : OwF w N v l) (hbx : Bq w nb 32 (encF x).toArray) (hN : N ≤ w.heap.size) (hl : l.length ≤ 1000000) :
    ∃ v' w', (Builtin.append_ #[23, 23] ty #[v, .slice (some ⟨nb, 0, none⟩) 1 1]).run Tryd.prog w = .ok v' w' ∧ OwF w' N v' (l ++ [x]) ∧ w.grownBy w' v.ownBlock := by
  obtain ⟨i0, hi, hz0, hz1, hz2⟩ := info_parts5 infoFd
  obtain ⟨v', w', h1, h2, h3, h4, h5⟩ := run_append_own_at (P := Tryd.prog) w N 23 ty 32 i0 _ 6 56 Tryd.underlying23 hi hz0 hz1 hz2 rfl (by decide) v l.length _ h ⟨nb, 0, none⟩ 1 1 (encF x) rfl (fun j u hu => by
    rw [Addr.add_lit, Nat.zero_add]
    exact hbx.cell j u (by rw [← hu]; simp)) (fun u hu => by simp [encF] at hu; rcases hu with rfl | rfl | rfl | rfl | rfl | rfl <;> rfl) (by unfold maxLen; omega) (by omega) (by first | omega | (simp; omega))
  refine ⟨v', w', h1, ?_, h3⟩
  unfold OwF
  rw [flat_append, List.length_append]
  simpa [flat] using h2
/-- what is found so far, in new memory -/
structure FdS (w W : World) (v : Value) (l : List It) : Prop where
  bel : Below w.heap.size w W
  ow : OwF W w.heap.size v l
variable {w W W' : World} {v : Value} {l : List It}
theorem FdS.below (h : FdS w W v l) (hb : Below W.heap.size W W') : FdS w W' v l := ⟨bnext h.bel hb, owns_kp (N := fun _ => False) h.ow (Kp.of_below hb) (fun _ _ e => e)⟩
theorem FdS.drewN (h : FdS w W v l) (n : Nat) : FdS w (W.drewN n) v l := ⟨⟨h.bel.os, h.bel.tape, h.bel.output, h.bel.size, h.bel.block⟩, h.ow⟩
theorem FdS.form (h : FdS w W v l) : ∃ a c, v = .slice a l.length c := owns_form h.ow
theorem FdS.push (h : FdS w W v l) (ty : TypeId) (x : It) {X : World} {nb : Nat} (hX : Below W.heap.size W X) (hbx : Bq X nb 32 (encF x).toArray) (hl : l.length ≤ 1000000) {L : Nat} (hL : l.length = L) :
    ∃ (a' : Option Addr) (c' : Nat) (X' : World), (Builtin.append_ #[23, 23] ty #[v, .slice (some ⟨nb, 0, none⟩) 1 1]).run Tryd.prog X = .ok (.slice a' (L + 1) c') X' ∧ Hid (FdS w X' (.slice a' (L + 1) c') (l ++ [x])) ∧ Hid (Kp (fun k => v.ownBlock = some k) X X') := by
  subst hL
  have h' := h.below hX
  obtain ⟨v', X', h1, h2, h3⟩ := append_found X ty w.heap.size v l x nb h'.ow hbx h'.bel.size hl
  have k := Kp.of_grown (N := fun k => v.ownBlock = some k) h3 (fun k hk => hk)
  obtain ⟨a', c', e⟩ := owns_form h2
  rw [List.length_append] at e
  have e' : v' = .slice a' (l.length + 1) c' := e
  subst e'
  exact ⟨a', c', X', h1, hide ⟨k.below h'.bel (fun i hi => (h'.ow.lt i hi).1), h2⟩, hide k⟩

end Go.Proofs.YticjilkcobpcjaaDoor
