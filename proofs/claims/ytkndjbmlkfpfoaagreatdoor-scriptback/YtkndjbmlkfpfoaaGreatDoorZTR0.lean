/-
  Rows of Steps of one's own; how a script is read, item by item.
-/
import Derived.Test.YtkndjbmlkfpfoaaGreatDoorZTOToTQ
import Derived.Test.YtkndjbmlkfpfoaaGreatDoorZWwToTA

set_option linter.unusedSimpArgs false
set_option linter.unusedVariables false
namespace Go.Proofs.YtkndjbmlkfpfoaaGreatDoor
open Go.RowKit Go.Lib

/-- Steps of one's own, their rows from N on -/
structure OwT (W : World) (N : Nat) (v : Value) (l : List (Sp × Value × Value)) : Prop where
  row : W.ownsRow N 40 9 v l.length (flat encS l)
  rows : ∀ x ∈ l, StV W N x.1 x.2.1 x.2.2
theorem StV.kp {M : Nat → Prop} {W W' : World} {N : Nat} {s : Sp} {dv bv : Value} (h : StV W N s dv bv) (k : Kp M W W') (h1 : ∀ i, dv.ownBlock = some i → ¬ M i) (h2 : ∀ i, bv.ownBlock = some i → ¬ M i) : StV W' N s dv bv := ⟨owns_kp h.1 k h1, ownsF_kp h.2 k h2⟩
theorem StV.below {W W' : World} {N : Nat} {s : Sp} {dv bv : Value} (h : StV W N s dv bv) (hb : Below W.heap.size W W') : StV W' N s dv bv := h.kp (M := fun _ => False) (Kp.of_below hb) (fun _ _ e => e) (fun _ _ e => e)
theorem ownsF_wk {W : World} {N N' : Nat} {v : Value} {l : List UInt8} (h : OwB W N v l) (hn : N' ≤ N) : OwB W N' v l := by
  rcases h with h | ⟨g, cap, cur, fz, e, hbg, hr⟩
  · exact .inl h
  · exact .inr ⟨g, cap, cur, fz, e, Nat.le_trans hn hbg, hr⟩
theorem StV.wk {W : World} {N N' : Nat} {s : Sp} {dv bv : Value} (h : StV W N s dv bv) (hn : N' ≤ N) : StV W N' s dv bv := ⟨owns_wk h.1 hn, ownsF_wk h.2 hn⟩
/-- what is written to a block of another type lets the Steps' rows be -/
theorem StV.put {W W' : World} {N b : Nat} {s : Sp} {dv bv : Value} {t : TypeId} {vs : Array Value} (h : StV W N s dv bv) (k : Kp (fun i => i = b) W W') (hb : Bq W b t vs) (h1 : t ≠ 3) (h2 : t ≠ 5) : StV W' N s dv bv :=
  h.kp k (fun i hi e => owns_ty h.1 hb h1 (by rw [hi, e])) (fun i hi e => ownsF_ty h.2 hb h2 (by rw [hi, e]))
theorem OwT.kp {W W' : World} {N : Nat} {v : Value} {l : List (Sp × Value × Value)} (h : OwT W N v l) {b : Nat} {t : TypeId} {vs : Array Value} (k : Kp (fun i => i = b) W W') (hb : Bq W b t vs) (h0 : t ≠ 40) (h1 : t ≠ 3) (h2 : t ≠ 5) : OwT W' N v l :=
  ⟨owns_kp h.row k (fun i hi e => owns_ty h.row hb h0 (by rw [hi, e])), fun x hx => (h.rows x hx).put k hb h1 h2⟩
theorem OwT.below {W W' : World} {N : Nat} {v : Value} {l : List (Sp × Value × Value)} (h : OwT W N v l) (hb : Below W.heap.size W W') : OwT W' N v l :=
  ⟨owns_kp (N := fun _ => False) h.row (Kp.of_below hb) (fun _ _ e => e), fun x hx => (h.rows x hx).below hb⟩
theorem StV.forms {W : World} {N : Nat} {s : Sp} {dv bv : Value} (h : StV W N s dv bv) : (∃ a n c, dv = .slice a n c) ∧ ∃ a n c, bv = .slice a n c := by
  obtain ⟨a, c, e⟩ := owns_form h.1
  refine ⟨⟨_, _, _, e⟩, ?_⟩
  rcases h.2 with ⟨e, _⟩ | ⟨g, cap, cur, fz, e, _⟩
  · exact ⟨_, _, _, e⟩
  · exact ⟨_, _, _, e⟩
theorem infoSt : (Tryz.prog.info? 40).map (fun i => (i.zero, i.size, i.bytes)) = some (some (.agg zSt), 9, 112) := by kernel_rfl
/-- append(l, s) of a Step -/
theorem append_stp (w : World) (ty : TypeId) (N : Nat) (v : Value) (l : List (Sp × Value × Value)) (s : Sp) (dv bv : Value) (nb : Nat) (h : OwT w N v l) (hbx : Bq w nb 40 (spC s dv bv)) (hs : StV w N s dv bv) (hN : N ≤ w.heap.size) (hl : l.length ≤ 1000000) :
    ∃ v' w', (Builtin.append_ #[23, 23] ty #[v, .slice (some ⟨nb, 0, none⟩) 1 1]).run Tryz.prog w = .ok v' w' ∧ OwT w' N v' (l ++ [(s, dv, bv)]) ∧ w.grownBy w' v.ownBlock ∧ (v'.ownBlock = v.ownBlock ∨ v'.ownBlock = some w.heap.size) := by
  obtain ⟨i0, hi, hz0, hz1, hz2⟩ := info_parts5 infoSt
  obtain ⟨⟨a1, n1, c1, e1⟩, a2, n2, c2, e2⟩ := hs.forms
  obtain ⟨v', w', h1, h2, h3, h4, h5⟩ := run_append_own_at (P := Tryz.prog) w N 23 ty 40 i0 _ 9 112 Tryz.underlying23 hi hz0 hz1 hz2 rfl (by decide) v l.length _ h.row ⟨nb, 0, none⟩ 1 1 (encS (s, dv, bv)) rfl (fun j u hu => by
    rw [Addr.add_lit, Nat.zero_add]
    exact hbx.cell j u (by rw [← hu]; simp [encS])) (fun u hu => by simp [encS, spC] at hu; rcases hu with rfl | rfl | rfl | rfl | rfl | rfl | rfl | rfl | rfl <;> first | rfl | (rw [e1]; rfl) | (rw [e2]; rfl)) (by unfold maxLen; omega) (by omega) (by first | omega | (simp; omega))
  have k : Kp (fun i => v.ownBlock = some i) w w' := Kp.of_grown h3 (fun k hk => hk)
  have hty : ∀ q t vs, Bq w q t vs → t ≠ 40 → v.ownBlock ≠ some q := fun q t vs hq ht => owns_ty h.row hq ht
  have keep : ∀ x dv bv, StV w N x dv bv → StV w' N x dv bv := fun x dv bv hx => by
    refine hx.kp k ?_ ?_
    · intro i hi' e
      obtain ⟨_, (⟨rfl, _⟩ | ⟨g, cap, cur, rfl, _, hg, _⟩)⟩ := hx.1
      · cases hi'
      · cases hi'; exact hty _ _ _ hg (by decide) e
    · intro i hi' e
      rcases hx.2 with ⟨rfl, _⟩ | ⟨g, cap, cur, fz, rfl, _, hg, _⟩
      · cases hi'
      · cases hi'
        obtain ⟨_, (⟨e9, _⟩ | ⟨g9, _, cur9, e9, _, hg9, _⟩)⟩ := h.row
        · rw [e9] at e; cases e
        · rw [e9] at e; cases e; rw [hg] at hg9; cases hg9
  refine ⟨v', w', h1, ⟨?_, fun x hx => ?_⟩, h3, h5⟩
  · rw [flat_append, List.length_append]
    simpa [flat] using h2
  · rcases List.mem_append.1 hx with hx | hx
    · exact keep _ _ _ (h.rows x hx)
    · simp at hx; subst hx; exact keep _ _ _ hs

/-- which row of the table reads the words -/
def fstR (l : List It) : Option Sp := (List.range 14).findSome? (fun i => rdRw i l)
abbrev Pr : Type := (List Sp × List It) ⊕ (Nat × Nat)
/-- one item of a script -/
def prI (p : Pr) (x : It) : Pr := match p with
  | .inr (a, b) => .inr (a, b)
  | .inl (s, l) => if x.w.e ≠ 0 then .inr (x.ln, x.w.e) else if x.w.k ≠ 4 then .inl (s, l ++ [x]) else match fstR l with
    | some t => .inl (s ++ [t], [])
    | none => .inr (x.ln, 19)
def prL (l : List It) : Pr := l.foldl prI (.inl ([], []))
theorem prL_snoc (l : List It) (x : It) : prL (l ++ [x]) = prI (prL l) x := by simp [prL]
theorem prI_no (l : List It) (a b : Nat) : l.foldl prI (.inr (a, b)) = .inr (a, b) := by
  induction l with
  | nil => rfl
  | cons x l ih => exact ih
end Go.Proofs.YtkndjbmlkfpfoaaGreatDoor
