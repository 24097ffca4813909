/-
  What script.takeAll does: numbers behind a step's Draws.
-/
import Derived.Test.YtkndjbmlkfpfoaaGreatDoorZTM
import Derived.Deep.RegionLaw

set_option linter.unusedSimpArgs false
set_option linter.unusedVariables false
namespace Go.Proofs.YtkndjbmlkfpfoaaGreatDoor
open Go.RowKit Go.Lib

def RW (W : World) (v : Value) (l : List It) : Prop := RC W v l.length (flat encW l)
theorem RW.at {W : World} {a : Option Addr} {n c : Nat} {l : List It} (h : RW W (.slice a n c) l) {i : Nat} {x : It} (hi : l[i]? = some x) :
    ∃ b off, a = some ⟨b, off, none⟩ ∧ b < W.heap.size ∧ W.cell? ⟨b, off + i * 5, none⟩ = some (.int .i64 (x.w.k : Int)) ∧ W.cell? ⟨b, off + i * 5 + 1, none⟩ = some (.string x.w.t) ∧ W.cell? ⟨b, off + i * 5 + 2, none⟩ = some (.int .i64 x.w.n) ∧ W.cell? ⟨b, off + i * 5 + 3, none⟩ = some (.int .i64 (x.w.a : Int)) ∧ W.cell? ⟨b, off + i * 5 + 4, none⟩ = some (.int .i64 (x.ln : Int)) := by
  rcases h with ⟨h0, _⟩ | ⟨b, off, cap, e2, hn, hlt, hc⟩
  · have := (List.getElem?_eq_some_iff.1 hi).1; omega
  · simp at e2
    have hq := fun q u (hu : (encW x)[q]? = some u) (hq : q < 5) => hc (i * 5 + q) u ((flat_get encW_len l i q x hi hq).trans hu)
    refine ⟨b, off, e2.1, hlt, ?_, ?_, ?_, ?_, ?_⟩
    · exact hq 0 _ rfl (by omega)
    · rw [Nat.add_assoc]; exact hq 1 _ rfl (by omega)
    · rw [Nat.add_assoc]; exact hq 2 _ rfl (by omega)
    · rw [Nat.add_assoc]; exact hq 3 _ rfl (by omega)
    · rw [Nat.add_assoc]; exact hq 4 _ rfl (by omega)

/-- bytes of one's own; the place behind its array may be marked -/
def OwB (W : World) (N : Nat) (v : Value) (l : List UInt8) : Prop :=
  (v = .slice none 0 0 ∧ l = []) ∨ ∃ g cap cur fz, v = .slice (some ⟨g, 0, none⟩) l.length cap ∧ N ≤ g ∧ W.heap[g]? = some (Obj.cells cur 5 fz) ∧ (fz = (0, 0) ∨ fz = (cur.size, cur.size + 1)) ∧ l.length ≤ cap ∧ cap ≤ maxLen ∧ cur.size = cap ∧ cur.toList.take l.length = Lib.byteCells l
theorem ownsF_ty {W : World} {N b : Nat} {v : Value} {l : List UInt8} {t : TypeId} {vs : Array Value} (h : OwB W N v l) (hb : Bq W b t vs) (ht : t ≠ 5) : v.ownBlock ≠ some b := by
  rcases h with ⟨rfl, _⟩ | ⟨g, cap, cur, fz, rfl, _, hg, _⟩
  · intro e; cases e
  · intro e
    cases e
    unfold Bq at hb
    rw [hg] at hb
    cases hb
    exact ht rfl
theorem ownsF_kp {M : Nat → Prop} {W W' : World} {N : Nat} {v : Value} {l : List UInt8} (h : OwB W N v l) (kp : Kp M W W') (hn : ∀ i, v.ownBlock = some i → ¬ M i) : OwB W' N v l := by
  rcases h with h | ⟨g, cap, cur, fz, rfl, hbg, hg, hr⟩
  · exact .inl h
  · exact .inr ⟨g, cap, cur, fz, rfl, hbg, (kp.block g (Array.getElem?_eq_some_iff.1 hg).1 (hn g rfl)).trans hg, hr⟩
theorem OwB.row {W : World} {N : Nat} {v : Value} {l : List UInt8} (h : OwB W N v l) : RBy W v l := by
  rcases h with ⟨rfl, rfl⟩ | ⟨g, cap, cur, fz, rfl, hbg, hg, hf, h1, h2, h3, h4⟩
  · exact .inl ⟨rfl, _, _, rfl⟩
  · refine .inr ⟨g, 0, cap, rfl, h1, (Array.getElem?_eq_some_iff.1 hg).1, fun j x hx => ?_⟩
    rw [Nat.zero_add]
    simp only [World.cell?, hg]
    have hj := (List.getElem?_eq_some_iff.1 hx).1
    rw [bytC_len] at hj
    rw [← h4, List.getElem?_take_of_lt hj] at hx
    simpa using hx
/-- a step of one's own: its box, its rows from N on -/
structure StO (N : Nat) (W : World) (b : Nat) (s : Sp) (dv bv : Value) : Prop where
  bx : Bq W b 40 (spC s dv bv)
  dr : W.ownsRow N 3 1 dv s.draws.length (flat enN s.draws)
  by_ : OwB W N bv s.data
theorem owns_ty {W : World} {N E k n b : Nat} {v : Value} {C : List Value} {t : TypeId} {vs : Array Value} (h : W.ownsRow N E k v n C) (hb : Bq W b t vs) (ht : t ≠ E) : v.ownBlock ≠ some b := by
  obtain ⟨_, (⟨rfl, _⟩ | ⟨g, cap, cur, rfl, _, hg, _⟩)⟩ := h
  · intro e; cases e
  · intro e
    cases e
    unfold Bq at hb
    rw [hg] at hb
    cases hb
    exact ht rfl
theorem StO.kp {M : Nat → Prop} {N : Nat} {W W' : World} {b : Nat} {s : Sp} {dv bv : Value} (h : StO N W b s dv bv) (k : Kp M W W') (h1 : ¬ M b) (h2 : ∀ i, dv.ownBlock = some i → ¬ M i) (h3 : ∀ i, bv.ownBlock = some i → ¬ M i) : StO N W' b s dv bv :=
  ⟨h.bx.kp k h1, owns_kp h.dr k h2, ownsF_kp h.by_ k h3⟩
theorem StO.below {N : Nat} {W W' : World} {b : Nat} {s : Sp} {dv bv : Value} (h : StO N W b s dv bv) (hb : Below W.heap.size W W') : StO N W' b s dv bv :=
  h.kp (M := fun _ => False) (Kp.of_below hb) id (fun _ _ => id) (fun _ _ => id)
theorem infoI : (Tryz.prog.info? 3).map (fun i => (i.zero, i.size, i.bytes)) = some (some (.int .i64 0), 1, 8) := by kernel_rfl
theorem append_num (w : World) (ty : TypeId) (N : Nat) (v : Value) (l : List Int) (x : Int) (nb : Nat) (h : w.ownsRow N 3 1 v l.length (flat enN l)) (hbx : Bq w nb 3 #[.int .i64 x]) (hN : N ≤ w.heap.size) (hl : l.length ≤ 100000000) :
    ∃ v' w', (Builtin.append_ #[37, 37] ty #[v, .slice (some ⟨nb, 0, none⟩) 1 1]).run Tryz.prog w = .ok v' w' ∧ w'.ownsRow N 3 1 v' (l ++ [x]).length (flat enN (l ++ [x])) ∧ w.grownBy w' v.ownBlock ∧ (v'.ownBlock = v.ownBlock ∨ v'.ownBlock = some w.heap.size) := by
  obtain ⟨i0, hi, hz0, hz1, hz2⟩ := info_parts5 infoI
  obtain ⟨v', w', h1, h2, h3, h4, h5⟩ := run_append_own_at (P := Tryz.prog) w N 37 ty 3 i0 _ 1 8 Tryz.underlying37 hi hz0 hz1 hz2 rfl (by decide) v l.length _ h ⟨nb, 0, none⟩ 1 1 (enN x) rfl (fun j u hu => by
    rw [Addr.add_lit, Nat.zero_add]
    exact hbx.cell j u (by rw [← hu]; simp [enN])) (fun u hu => by simp [enN] at hu; subst hu; rfl) (by unfold maxLen; omega) (by omega) (by first | omega | (simp; omega))
  refine ⟨v', w', h1, ?_, h3, h5⟩
  rw [flat_append, List.length_append]
  simpa [flat] using h2
def allN (l : List It) : Bool := l.all fun x => decide (x.w.k = 3)
end Go.Proofs.YtkndjbmlkfpfoaaGreatDoor
