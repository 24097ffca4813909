/-
  Rows of operations that begin later in their block: read, cut at the front, gone on from.
-/
import Derived.Test.YtkkolefionbbcaaGreatZXLG
import Derived.Laws.CopyRow
import Derived.Test.YtkkolefionbbcaaGreatZCP
import Derived.Laws.CopyOwn

set_option linter.unusedSimpArgs false
set_option linter.unusedVariables false
namespace Go.Proofs.YtkkolefionbbcaaGreat
open Go.RowKit Go.Lib

/-- a row of operations of one's own, from its k0-th place on -/
def RdA (W : World) (v : Value) (n : Nat) (C : List Value) : Prop :=
  C.length = n * 11 ∧ ((v = .slice none 0 0 ∧ n = 0) ∨ ∃ g k0 cap cur, v = .slice (some ⟨g, k0 * 11, none⟩) n cap ∧ W.heap[g]? = some (.cells cur 42 (0, 0)) ∧ n ≤ cap ∧ k0 + cap ≤ maxLen ∧ (k0 + cap) * 11 ≤ cur.size ∧ (cur.toList.drop (k0 * 11)).take (n * 11) = C)
theorem RdA.nil (W : World) : RdA W (.slice none 0 0) 0 [] := ⟨rfl, .inl ⟨rfl, rfl⟩⟩
theorem RdA.kp {N : Nat → Prop} {W W' : World} {v : Value} {n : Nat} {C : List Value} (h : RdA W v n C) (k : Kp N W W') (hn : ∀ i, v.ownBlock = some i → ¬ N i) : RdA W' v n C := by
  obtain ⟨h0, h | ⟨g, k0, cap, cur, rfl, hg, hr⟩⟩ := h
  · exact ⟨h0, .inl h⟩
  · exact ⟨h0, .inr ⟨g, k0, cap, cur, rfl, (k.block g (Array.getElem?_eq_some_iff.1 hg).1 (hn g rfl)).trans hg, hr⟩⟩
theorem RdA.form {W : World} {v : Value} {n : Nat} {C : List Value} (h : RdA W v n C) : ∃ a c, v = .slice a n c := by
  obtain ⟨_, ⟨rfl, hn⟩ | ⟨g, k0, cap, cur, rfl, _⟩⟩ := h
  · exact ⟨none, 0, by rw [hn]⟩
  · exact ⟨_, _, rfl⟩
theorem RdA.lt {W : World} {v : Value} {n : Nat} {C : List Value} (h : RdA W v n C) : ∀ k, v.ownBlock = some k → k < W.heap.size := by
  intro k hk
  obtain ⟨_, ⟨rfl, hn⟩ | ⟨g, k0, cap, cur, rfl, hg, _⟩⟩ := h
  · cases hk
  · simp [Value.ownBlock] at hk
    subst hk
    exact (Array.getElem?_eq_some_iff.1 hg).1
theorem RdA.kind {W : World} {v : Value} {n : Nat} {C : List Value} (h : RdA W v n C) : ∀ k, v.ownBlock = some k → ∃ cur, Bx W k 42 cur := by
  intro k hk
  obtain ⟨_, ⟨rfl, hn⟩ | ⟨g, k0, cap, cur, rfl, hg, _⟩⟩ := h
  · cases hk
  · simp [Value.ownBlock] at hk
    subst hk
    exact ⟨cur, hg⟩
/-- a cell of it -/
theorem RdA.cell {W : World} {a : Option Addr} {n c : Nat} {C : List Value} (h : RdA W (.slice a n c) n C) (hn : 0 < n) : ∃ g k0, a = some ⟨g, k0 * 11, none⟩ ∧ (∀ j, W.frozen? ⟨g, j, none⟩ = false) ∧ ∀ j x, C[j]? = some x → W.cell? ⟨g, k0 * 11 + j, none⟩ = some x := by
  obtain ⟨h0, ⟨_, h1⟩ | ⟨g, k0, cap, cur, e, hg, hc, hm, hs, ht⟩⟩ := h
  · omega
  · simp at e
    obtain ⟨rfl, rfl⟩ := e
    refine ⟨g, k0, rfl, fun j => by simp [World.frozen?, hg], fun j x hx => ?_⟩
    have hj := (List.getElem?_eq_some_iff.1 hx).1
    rw [cell_of_row W g _ cur _ _ hg, ← hx, ← ht, List.getElem?_take_of_lt (by omega), List.getElem?_drop]
    simp
/-- without the first -/
theorem RdA.tail {W : World} {g o n c : Nat} {C : List Value} (h : RdA W (.slice (some ⟨g, o, none⟩) (n + 1) c) (n + 1) C) : RdA W (.slice (if c = 1 then some ⟨g, o, none⟩ else some ⟨g, o + 11, none⟩) n (c - 1)) n (C.drop 11) := by
  obtain ⟨h0, ⟨e, _⟩ | ⟨g', k0, cap, cur, e, hg, hc, hm, hs, ht⟩⟩ := h
  · cases e
  · simp at e
    obtain ⟨⟨rfl, rfl⟩, rfl⟩ := e
    by_cases h1 : c = 1
    · subst h1
      obtain rfl : n = 0 := by omega
      rw [if_pos rfl]
      refine ⟨by rw [List.length_drop, h0], .inr ⟨g, k0, 0, cur, rfl, hg, by omega, by omega, by omega, ?_⟩⟩
      have : C.drop 11 = [] := List.eq_nil_of_length_eq_zero (by rw [List.length_drop, h0])
      rw [this]
      simp
    · rw [if_neg h1]
      refine ⟨by rw [List.length_drop, h0]; omega, .inr ⟨g, k0 + 1, c - 1, cur, by rw [show (k0 + 1) * 11 = k0 * 11 + 11 by omega], hg, by omega, by omega, by omega, ?_⟩⟩
      rw [← ht, List.drop_take, List.drop_drop, show (n + 1) * 11 - 11 = n * 11 by omega, show (k0 + 1) * 11 = k0 * 11 + 11 by omega]
/-- the first eleven cells are written over -/
theorem RdA.over {W : World} {g o n c : Nat} {C D : List Value} (h : RdA W (.slice (some ⟨g, o, none⟩) (n + 1) c) (n + 1) C) (hD : D.length = 11) (h1 : ∀ u ∈ D, u.oneCell' = true) : ∃ W', (storeCells ⟨g, o, none⟩ D).run Tryz.prog W = .ok () W' ∧ RdA W' (.slice (some ⟨g, o, none⟩) (n + 1) c) (n + 1) (D ++ C.drop 11) ∧ Kp (fun i => i = g) W W' := by
  obtain ⟨h0, ⟨e, _⟩ | ⟨g', k0, cap, cur, e, hg, hc, hm, hs, ht⟩⟩ := h
  · cases e
  · simp at e
    obtain ⟨⟨rfl, rfl⟩, rfl⟩ := e
    have hst := run_storeCells_at Tryz.prog g (k0 * 11) 42 D 0 cur W hg (by rw [hD]; omega) h1
    simp only [Nat.add_zero] at hst
    have hcl : cur.toList.length = cur.size := Array.length_toList
    refine ⟨_, hst, ⟨?_, .inr ⟨g, k0, c, _, rfl, setRow_heap W g cur _ _ _ hg, hc, hm, ?_, ?_⟩⟩, ⟨rfl, rfl, rfl, by simp, fun k _ hk => setRow_other W g k _ (fun e => hk e)⟩⟩
    · rw [List.length_append, List.length_drop, hD, h0]; omega
    · simp only [List.size_toArray, List.length_append, List.length_take, List.length_drop, Array.length_toList, hD]
      omega
    · show ((cur.toList.take (k0 * 11) ++ D ++ cur.toList.drop (k0 * 11 + D.length)).drop (k0 * 11)).take ((n + 1) * 11) = _
      have e1 : (cur.toList.take (k0 * 11)).length = k0 * 11 := by rw [List.length_take]; omega
      rw [List.append_assoc, List.drop_append_of_le_length (by omega), List.drop_of_length_le (by omega), List.nil_append, List.take_append, hD, List.take_of_length_le (by omega), ← ht, List.drop_take, List.drop_drop, show (n + 1) * 11 - 11 = n * 11 by omega]
/-- append(l, o) -/
theorem append_rd (w : World) (ty : TypeId) (v : Value) (l : List (Opn × Value × Value)) (e : Opn × Value × Value) (nb : Nat) (h : RdA w v l.length (flat encO l)) (hbx : Bx w nb 42 (encO e).toArray) (h1 : ∀ u ∈ encO e, u.oneCell' = true) (hl : l.length ≤ 1000000) :
    ∃ v' w', (Builtin.append_ #[47, 47] ty #[v, .slice (some ⟨nb, 0, none⟩) 1 1]).run Tryz.prog w = .ok v' w' ∧ RdA w' v' (l ++ [e]).length (flat encO (l ++ [e])) ∧ w.grownBy w' v.ownBlock ∧ (v'.ownBlock = v.ownBlock ∨ v'.ownBlock = some w.heap.size) := by
  obtain ⟨i0, hi, hz0, hz1, hz2⟩ := info_parts infoO
  have hnews : ∀ j u, (encO e)[j]? = some u → w.cell? ((⟨nb, 0, none⟩ : Addr).add j) = some u := fun j u hu => by
    rw [Addr.add_lit, Nat.zero_add]
    exact hbx.cell j u (by rw [← hu]; simp)
  have hflat : flat encO (l ++ [e]) = flat encO l ++ encO e := by
    rw [flat_append]
    have : flat encO [e] = encO e := by simp [flat]
    rw [this]
  have hll : (l ++ [e]).length = l.length + 1 := by simp
  rw [hflat, hll]
  have hlen : (flat encO l ++ encO e).length = (l.length + 1) * 11 := by rw [List.length_append, h.1, encO_len]; omega
  obtain ⟨h0, ⟨rfl, hn⟩ | ⟨g, k0, cap, cur, rfl, hg, hc, hm, hs, ht⟩⟩ := h
  · have el : l = [] := List.eq_nil_of_length_eq_zero hn
    subst el
    obtain ⟨v', w', q1, q2, q3, _, q5⟩ := run_append_own_at (P := Tryz.prog) w 0 47 ty 42 i0 _ 11 128 Tryz.underlying47 hi hz0 hz1 hz2 rfl (by decide) (.slice none 0 0) 0 [] (World.ownsRow_nil _ _ _ _) ⟨nb, 0, none⟩ 1 1 (encO e) (by rw [encO_len]) hnews h1 (by unfold maxLen; omega) (by omega) (Nat.zero_le _)
    refine ⟨v', w', q1, ⟨hlen, ?_⟩, q3, q5⟩
    obtain ⟨_, (⟨e1, e2⟩ | ⟨g, cp, cr, e1, _, hg, hc, hm, hs, ht⟩)⟩ := q2
    · omega
    · exact .inr ⟨g, 0, cp, cr, by rw [e1]; rfl, hg, hc, by omega, by rw [hs]; omega, by rw [Nat.zero_mul, List.drop_zero]; exact ht⟩
  · by_cases hroom : l.length + 1 ≤ cap
    · have hf := run_firstCells_some (P := Tryz.prog) w i0.size 1 ⟨nb, 0, none⟩ 1 1 (encO e) (by rw [encO_len, hz1]) hnews
      have hst := run_storeCells_at Tryz.prog g (k0 * 11 + l.length * 11) 42 (encO e) 0 cur w hg (by rw [encO_len]; omega) h1
      simp only [Nat.add_zero] at hst
      refine ⟨.slice (some ⟨g, k0 * 11, none⟩) (l.length + 1) cap, w.setRow g (cur.toList.take (k0 * 11 + l.length * 11) ++ encO e ++ cur.toList.drop (k0 * 11 + l.length * 11 + (encO e).length)).toArray, ?_, ⟨hlen, .inr ⟨g, k0, cap, _, rfl, setRow_heap w g cur _ _ _ hg, hroom, hm, ?_, ?_⟩⟩, ⟨rfl, rfl, rfl, by simp, fun k _ hk => setRow_other w g k _ (fun e => hk (by simp [Value.ownBlock, e]))⟩, .inl rfl⟩
      · simp [Builtin.append_, run_underlying Tryz.underlying47, sizeOf, typeInfo, hi, hz1, Builtin.lenOf, hroom, Addr.add_lit]
        rw [hz1] at hf
        rw [hf]
        simp [hst]
      · simp only [List.size_toArray, List.length_append, List.length_take, List.length_drop, Array.length_toList, encO_len]
        omega
      · have hcl : (k0 + cap) * 11 ≤ cur.toList.length := by rw [Array.length_toList]; exact hs
        show ((cur.toList.take (k0 * 11 + l.length * 11) ++ encO e ++ cur.toList.drop (k0 * 11 + l.length * 11 + (encO e).length)).drop (k0 * 11)).take ((l.length + 1) * 11) = _
        have ht' : (cur.toList.take (k0 * 11 + l.length * 11)).drop (k0 * 11) = flat encO l := by rw [List.drop_take, show k0 * 11 + l.length * 11 - k0 * 11 = l.length * 11 by omega]; exact ht
        rw [List.append_assoc, List.drop_append_of_le_length (by rw [List.length_take]; omega), ht', ← List.append_assoc]
        rw [List.take_append_of_le_length (by rw [hlen]; omega), List.take_of_length_le (by rw [hlen]; omega)]
    · have holds : ∀ j u, (flat encO l)[j]? = some u → w.cell? ((⟨g, k0 * 11, none⟩ : Addr).add j) = some u := fun j u hu => by
        have hj := (List.getElem?_eq_some_iff.1 hu).1
        rw [Addr.add_lit, cell_of_row w g _ cur _ _ hg, ← hu, ← ht, List.getElem?_take_of_lt (by omega), List.getElem?_drop]
        simp
      have hr := run_append_grow (P := Tryz.prog) w 47 ty 42 i0 _ Tryz.underlying47 hi hz0 ⟨g, k0 * 11, none⟩ l.length cap (flat encO l) (by rw [hz1]; exact h0) holds ⟨nb, 0, none⟩ 1 1 (encO e) (by rw [encO_len, hz1]) hnews (by omega) (by omega) (growslice_fits (by omega) (by rw [hz2]; omega))
      have hge := grownCap_ge w (l.length + 1) cap 42
      have hcm : grownCap w (l.length + 1) cap 42 ≤ maxLen := grownCap_le_maxLen w (l.length + 1) cap _ (by unfold maxLen; omega)
      refine ⟨_, _, hr, ⟨hlen, .inr ⟨w.heap.size, 0, _, _, by rw [Nat.zero_mul], heap_alloc_new w.drew _, hge, by omega, ?_, ?_⟩⟩, ⟨rfl, rfl, rfl, by simp, fun k hk _ => (ballc (Below.refl _ w.drew) _).block k hk⟩, .inr rfl⟩
      · simp only [Array.size_append, List.size_toArray, size_zeroCells, h0, encO_len]
        show (0 + grownCap w (l.length + 1) cap 42) * 11 ≤ l.length * 11 + 11 + (grownCap w (l.length + 1) cap 42 - (l.length + 1)) * 11
        omega
      · rw [Nat.zero_mul, List.drop_zero]
        simp only [Array.toList_append, List.append_assoc]
        rw [← List.append_assoc, List.take_append_of_le_length (by rw [hlen]; omega), List.take_of_length_le (by rw [hlen]; omega)]

end Go.Proofs.YtkkolefionbbcaaGreat

/-
  A queue in memory.
-/
set_option linter.unusedSimpArgs false
set_option linter.unusedVariables false
namespace Go.Proofs.YtkkolefionbbcaaGreat
open Go.RowKit Go.Lib

/-- an operation that is kept: its lists lie in blocks of which P holds -/
structure OE (P : Nat → Prop) (W : World) (e : Opn × Value × Value) : Prop where
  d : OwD W 0 e.2.1 e.1.deps
  g : OwR W 0 e.2.2 e.1.gone
  pd : ∀ k, e.2.1.ownBlock = some k → P k
  pg : ∀ k, e.2.2.ownBlock = some k → P k
  s1 : e.1.deps.length ≤ 1000000
  s2 : e.1.gone.length ≤ 1000000
  s3 : e.1.text.size ≤ 1000000
  inn : InO e.1
theorem OE.kp {P N : Nat → Prop} {W W' : World} {e : Opn × Value × Value} (h : OE P W e) (k : Kp N W W') (hn : ∀ i, N i → ¬ P i) : OE P W' e :=
  ⟨owns_kp h.d k (fun i hi e => hn i e (h.pd i hi)), owns_kp h.g k (fun i hi e => hn i e (h.pg i hi)), h.pd, h.pg, h.s1, h.s2, h.s3, h.inn⟩
/-- where only operations' rows and the queue's own variable are written -/
theorem OE.kt {P N : Nat → Prop} {W W' : World} {e : Opn × Value × Value} (h : OE P W e) (k : Kp N W W') (hn : ∀ i, N i → ∃ t cur, Bx W i t cur ∧ t ≠ 28 ∧ t ≠ 72) : OE P W' e := by
  refine ⟨owns_kp h.d k (fun i hi e => ?_), owns_kp h.g k (fun i hi e => ?_), h.pd, h.pg, h.s1, h.s2, h.s3, h.inn⟩
  · obtain ⟨t, cur, hb, h1, _⟩ := hn i e
    obtain ⟨_, (⟨e1, _⟩ | ⟨g, cap, cur', e1, _, hg, _⟩)⟩ := h.d
    · rw [e1] at hi; cases hi
    · rw [e1] at hi
      simp [Value.ownBlock] at hi
      subst hi
      have e2 : W.heap[g]? = _ := hb
      rw [hg] at e2
      simp at e2
      exact h1 e2.2.symm
  · obtain ⟨t, cur, hb, _, h1⟩ := hn i e
    obtain ⟨_, (⟨e1, _⟩ | ⟨g, cap, cur', e1, _, hg, _⟩)⟩ := h.g
    · rw [e1] at hi; cases hi
    · rw [e1] at hi
      simp [Value.ownBlock] at hi
      subst hi
      have e2 : W.heap[g]? = _ := hb
      rw [hg] at e2
      simp at e2
      exact h1 e2.2.symm
theorem OE.below {P : Nat → Prop} {W W' : World} {e : Opn × Value × Value} (h : OE P W e) (hb : Below W.heap.size W W') : OE P W' e := h.kp (N := fun _ => False) (Kp.of_below hb) (fun _ h => h.elim)
theorem OE.mono {P P' : Nat → Prop} {W : World} {e : Opn × Value × Value} (h : OE P W e) (hp : ∀ i, P i → P' i) : OE P' W e := ⟨h.d, h.g, fun k hk => hp k (h.pd k hk), fun k hk => hp k (h.pg k hk), h.s1, h.s2, h.s3, h.inn⟩
theorem OE.one {P : Nat → Prop} {W : World} {e : Opn × Value × Value} (h : OE P W e) : ∀ u ∈ encO e, u.oneCell' = true := by
  obtain ⟨a, c, h1⟩ := OwD.form h.d
  obtain ⟨a', c', h2⟩ := OwR.form h.g
  intro u hu
  unfold encO at hu
  rw [h1, h2] at hu
  simp at hu
  rcases hu with rfl | rfl | rfl | rfl | rfl | rfl | rfl | rfl | rfl | rfl | rfl <;> rfl

/-- their lists lie in blocks of their own -/
def ApE (e f : Opn × Value × Value) : Prop := (∀ k, e.2.1.ownBlock = some k → f.2.1.ownBlock ≠ some k) ∧ ∀ k, e.2.2.ownBlock = some k → f.2.2.ownBlock ≠ some k
theorem ApE.symm {e f : Opn × Value × Value} (h : ApE e f) : ApE f e := ⟨fun k h1 h2 => h.1 k h2 h1, fun k h1 h2 => h.2 k h2 h1⟩
/-- operations whose lists lie apart from one another, and from a vector -/
def Apt (vh : Value) (es : List (Opn × Value × Value)) : Prop := (∀ e ∈ es, ∀ k, e.2.1.ownBlock = some k → vh.ownBlock ≠ some k) ∧ es.Pairwise ApE
theorem Apt.nil (vh : Value) : Apt vh [] := ⟨fun e he => (by cases he), List.Pairwise.nil⟩
theorem Apt.perm {vh : Value} {es fs : List (Opn × Value × Value)} (h : Apt vh es) (hp : es.Perm fs) : Apt vh fs := ⟨fun e he => h.1 e (hp.mem_iff.2 he), (hp.pairwise_iff (fun h => ApE.symm h)).1 h.2⟩
theorem Apt.sub {vh : Value} {es fs : List (Opn × Value × Value)} (h : Apt vh es) (hs : fs.Sublist es) : Apt vh fs := ⟨fun e he => h.1 e (hs.subset he), h.2.sublist hs⟩
theorem Apt.vec {vh vh' : Value} {es : List (Opn × Value × Value)} (h : Apt vh es) (hn : ∀ e ∈ es, ∀ k, e.2.1.ownBlock = some k → vh'.ownBlock ≠ some k) : Apt vh' es := ⟨hn, h.2⟩
theorem Apt.cons {vh : Value} {x : Opn × Value × Value} {es : List (Opn × Value × Value)} (h : Apt vh es) (h1 : ∀ k, x.2.1.ownBlock = some k → vh.ownBlock ≠ some k) (h2 : ∀ e ∈ es, ApE x e) : Apt vh (x :: es) :=
  ⟨fun e he => (List.mem_cons.1 he).elim (fun q => by rw [q]; exact h1) (h.1 e), List.Pairwise.cons h2 h.2⟩
/-- a queue: its variable, what was delivered, what waits, what was not taken -/
structure QM (P : Nat → Prop) (W : World) (b : Nat) (hold : Int) (vh vw vr : Value) (hv : List (Int × Int)) (ws rd : List (Opn × Value × Value)) : Prop where
  box : Bx W b 49 #[.int .i64 hold, vh, vw, vr]
  rh : OwD W 0 vh hv
  rw : W.ownsRow 0 42 11 vw ws.length (flat encO ws)
  rr : RdA W vr rd.length (flat encO rd)
  we : ∀ e ∈ ws, OE P W e
  re : ∀ e ∈ rd, OE P W e
  pb : P b
  ph : ∀ k, vh.ownBlock = some k → P k
  pw : ∀ k, vw.ownBlock = some k → P k
  pr : ∀ k, vr.ownBlock = some k → P k
  ap : ∀ k, vw.ownBlock = some k → vr.ownBlock ≠ some k
  hl : hv.length ≤ 1000000
  dj : Apt vh (ws ++ rd)
variable {P N : Nat → Prop} {W W' : World} {b : Nat} {hold : Int} {vh vw vr : Value} {hv : List (Int × Int)} {ws rd : List (Opn × Value × Value)}
theorem QM.kp (h : QM P W b hold vh vw vr hv ws rd) (k : Kp N W W') (hn : ∀ i, N i → ¬ P i) : QM P W' b hold vh vw vr hv ws rd :=
  ⟨h.box.kp k (fun e => hn _ e h.pb), owns_kp h.rh k (fun i hi e => hn i e (h.ph i hi)), owns_kp h.rw k (fun i hi e => hn i e (h.pw i hi)), h.rr.kp k (fun i hi e => hn i e (h.pr i hi)), fun e he => (h.we e he).kp k hn, fun e he => (h.re e he).kp k hn, h.pb, h.ph, h.pw, h.pr, h.ap, h.hl, h.dj⟩
theorem QM.below (h : QM P W b hold vh vw vr hv ws rd) (hb : Below W.heap.size W W') : QM P W' b hold vh vw vr hv ws rd := h.kp (N := fun _ => False) (Kp.of_below hb) (fun _ h => h.elim)
theorem QM.mono {P' : Nat → Prop} (h : QM P W b hold vh vw vr hv ws rd) (hp : ∀ i, P i → P' i) : QM P' W b hold vh vw vr hv ws rd :=
  ⟨h.box, h.rh, h.rw, h.rr, fun e he => (h.we e he).mono hp, fun e he => (h.re e he).mono hp, hp _ h.pb, fun k hk => hp k (h.ph k hk), fun k hk => hp k (h.pw k hk), fun k hk => hp k (h.pr k hk), h.ap, h.hl, h.dj⟩
/-- what lies in new memory lies apart -/
theorem QM.fresh (h : QM P W b hold vh vw vr hv ws rd) {x : Opn × Value × Value} (h1 : ∀ k, x.2.1.ownBlock = some k → W.heap.size ≤ k) (h2 : ∀ k, x.2.2.ownBlock = some k → W.heap.size ≤ k) : Apt vh (x :: (ws ++ rd)) := by
  refine h.dj.cons (fun k hk e => ?_) (fun e he => ⟨fun k hk e' => ?_, fun k hk e' => ?_⟩)
  · have := h1 k hk; have := (h.rh.lt k e).2; omega
  · have hoe : OE P W e := (List.mem_append.1 he).elim (h.we e) (h.re e)
    have := h1 k hk; have := (hoe.d.lt k e').2; omega
  · have hoe : OE P W e := (List.mem_append.1 he).elim (h.we e) (h.re e)
    have := h2 k hk; have := (hoe.g.lt k e').2; omega

end Go.Proofs.YtkkolefionbbcaaGreat

/-
  A queue: New, Free, Vector, Take.
-/
set_option linter.unusedSimpArgs false
set_option linter.unusedVariables false
namespace Go.Proofs.YtkkolefionbbcaaGreat
open Go.RowKit Go.Lib

theorem zeroO_one (n : Nat) : ∀ v ∈ (Builtin.zeroCells #[.int .i64 0, .int .i64 0, .slice none 0 0, .int .i64 0, .int .i64 0, .int .i64 0, .int .i64 0, .int .i64 0, .string ⟨#[]⟩, .slice none 0 0, .int .i64 0] n).toList, v.oneCell' = true := by
  intro v hv
  unfold Builtin.zeroCells at hv
  simp only [Array.toList_map, List.mem_map] at hv
  obtain ⟨i, _, rfl⟩ := hv
  have h : i % 11 < 11 := Nat.mod_lt _ (by omega)
  show (#[Value.int .i64 0, .int .i64 0, .slice none 0 0, .int .i64 0, .int .i64 0, .int .i64 0, .int .i64 0, .int .i64 0, .string ⟨#[]⟩, .slice none 0 0, .int .i64 0][i % 11]!).oneCell' = true
  generalize i % 11 = k at h
  obtain rfl | rfl | rfl | rfl | rfl | rfl | rfl | rfl | rfl | rfl | rfl : k = 0 ∨ k = 1 ∨ k = 2 ∨ k = 3 ∨ k = 4 ∨ k = 5 ∨ k = 6 ∨ k = 7 ∨ k = 8 ∨ k = 9 ∨ k = 10 := by omega
  all_goals rfl

theorem clear_own (w : World) (ty : TypeId) (g cap n m c' : Nat) (D R : List Value) (h : w.ownsRow 0 42 11 (.slice (some ⟨g, 0, none⟩) n cap) n (D ++ R)) (hD : D.length = m * 11) (hm : m ≤ n) :
    ∃ w', (Builtin.clear_ #[47] ty #[.slice (some ⟨g, m * 11, none⟩) (n - m) c']).run Tryz.prog w = .ok (.tuple #[]) w' ∧ w'.ownsRow 0 42 11 (.slice (some ⟨g, 0, none⟩) m cap) m D ∧ Kp (fun i => i = g) w w' := by
  obtain ⟨hC, (⟨e, _⟩ | ⟨g', cap', cur, e, hb, hg, hnc, hcm, hcs, htk⟩)⟩ := h
  · simp at e
  simp only [Value.slice.injEq, Option.some.injEq, Addr.mk.injEq, and_true, true_and] at e
  obtain ⟨rfl, rfl⟩ := e
  have htk2 : cur.toList.take (m * 11) = D := by
    have := congrArg (List.take (m * 11)) htk
    rw [List.take_take, Nat.min_eq_left (by omega)] at this
    rw [this, List.take_append_of_le_length (by omega), List.take_of_length_le (by omega)]
  by_cases h0 : n - m = 0
  · refine ⟨w, ?_, ⟨by omega, .inr ⟨g, cap, cur, rfl, hb, hg, by omega, hcm, hcs, htk2⟩⟩, Kp.refl _ _⟩
    rw [h0]
    simp [Builtin.clear_, run_underlying Tryz.underlying47]
  · obtain ⟨k, hk⟩ : ∃ k, n - m = k + 1 := ⟨n - m - 1, by omega⟩
    have hzl : (Builtin.zeroCells #[.int .i64 0, .int .i64 0, .slice none 0 0, .int .i64 0, .int .i64 0, .int .i64 0, .int .i64 0, .int .i64 0, .string ⟨#[]⟩, .slice none 0 0, .int .i64 0] (k + 1)).toList.length = (k + 1) * 11 := by simp [Builtin.zeroCells]
    have hone := zeroO_one (k + 1)
    obtain ⟨ZS, hZS⟩ : ∃ Z, Builtin.zeroCells #[.int .i64 0, .int .i64 0, .slice none 0 0, .int .i64 0, .int .i64 0, .int .i64 0, .int .i64 0, .int .i64 0, .string ⟨#[]⟩, .slice none 0 0, .int .i64 0] (k + 1) = Z := ⟨_, rfl⟩
    rw [hZS] at hzl hone
    have hfit : m * 11 + (k + 1) * 11 ≤ cap * 11 := by rw [← Nat.add_mul]; exact Nat.mul_le_mul_right 11 (by omega)
    have hst := run_storeCells_at Tryz.prog g (m * 11) 42 ZS.toList 0 cur w hg (by rw [hzl, hcs, Nat.add_zero]; exact hfit) hone
    simp only [Nat.add_zero] at hst
    obtain ⟨A, hA⟩ : ∃ A, (cur.toList.take (m * 11) ++ ZS.toList ++ cur.toList.drop (m * 11 + ZS.toList.length)).toArray = A := ⟨_, rfl⟩
    rw [hA] at hst
    refine ⟨w.setRow g A, ?_, ⟨hD, .inr ⟨g, cap, A, rfl, hb, setRow_heap w g cur _ _ _ hg, by omega, hcm, ?_, ?_⟩⟩, ⟨rfl, rfl, rfl, by simp, fun k _ hk => setRow_other w g k _ (fun e => hk e)⟩⟩
    · rw [hk]
      simp [Builtin.clear_, run_underlying Tryz.underlying47, Tryz.zeroValue42, Value.cells, hZS, hst]
    · rw [← hA]
      simp only [List.size_toArray, List.length_append, List.length_take, List.length_drop, Array.length_toList, hzl, hcs]
      rw [Nat.min_eq_left (by omega)]
      exact Nat.add_sub_cancel' hfit
    · rw [← hA]
      simp only [List.append_assoc]
      rw [List.take_append_of_le_length (by rw [List.length_take, Array.length_toList, hcs]; omega), List.take_take, Nat.min_self, htk2]

theorem sl_fromO (w : World) (a : Option Addr) (n c k : Nat) (hk : k ≤ n) (hn : n ≤ c) :
    (Instr.sliceAt 47 (.slice a n c) (some (.int .i64 (k : Nat))) none none).run Tryz.prog w = .ok (.slice (if c = k then a else a.map (·.add (k * 11))) (n - k) (c - k)) w := by
  obtain ⟨i0, hi, hz0, hz1, hz2⟩ := info_parts infoO
  have h1 : (k : Int) ≤ (n : Int) := by omega
  simp [Instr.sliceAt, Instr.slice, run_underlying Tryz.underlying47, sizeOf, typeInfo, hi, hz1, go_sem, h1, hk, hn]
theorem sl_toO (w : World) (a : Option Addr) (n c k : Nat) (hk : k ≤ c) :
    (Instr.sliceAt 47 (.slice a n c) none (some (.int .i64 (k : Nat))) none).run Tryz.prog w = .ok (.slice a k c) w := by
  obtain ⟨i0, hi, hz0, hz1, hz2⟩ := info_parts infoO
  have h1 : (k : Int) ≤ (c : Int) := by omega
  simp [Instr.sliceAt, Instr.slice, run_underlying Tryz.underlying47, sizeOf, typeInfo, hi, hz1, go_sem, h1, hk]

variable {P N : Nat → Prop} {w W W' : World} {b : Nat} {hold : Int} {vh vw vr : Value} {hv : List (Int × Int)} {ws rd : List (Opn × Value × Value)}
/-- what New answers -/
def NewQ (w : World) (hold : Int) (l : List (Int × Int)) (e : Ending) (W : World) : Prop := Below w.heap.size w W ∧ ((∃ b vh, 0 ≤ hold ∧ hold ≤ 256 ∧ chk l = 0 ∧ e = .returned (.tuple #[.pointer (some ⟨b, 0, none⟩), .int .i64 0]) ∧ QM (fun i => w.heap.size ≤ i) W b hold vh (.slice none 0 0) (.slice none 0 0) l [] []) ∨ ∃ c, ((¬ (0 ≤ hold ∧ hold ≤ 256) ∧ c = 1) ∨ (0 ≤ hold ∧ hold ≤ 256 ∧ chk l = c ∧ c ≠ 0)) ∧ e = .returned (.tuple #[.pointer none, .int .i64 c]))
set_option maxRecDepth 100000 in
set_option maxHeartbeats 2000000 in
theorem New_in (hold : Int) (v : Value) (l : List (Int × Int)) (w : World) (h : RI w v l) (hl : l.length ≤ 1000000) : Calls Tryz.prog 11 #[.int .i64 hold, v] w (NewQ w hold l) := by
  have HC := hide (Check_in v l w h (by omega))
  have HF := hide (fun (W : World) (hb : Below w.heap.size w W) => freshD_in v l W (h.below hb) hl)
  obtain ⟨a, c, rfl⟩ := h.form
  clear h
  by_cases h1 : 0 ≤ hold
  rotate_left
  · have h1' : hold < 0 := by omega
    go_enter Tryz.func11, Tryz.ntmps11
    go_wp2
    refine bodyPost_ret (results_tmp2 rfl _ _ _) rfl ?_
    exact ⟨Below.refl _ _, .inr ⟨1, .inl ⟨by omega, rfl⟩, rfl⟩⟩
  by_cases h2 : hold ≤ 256
  rotate_left
  · have h1' : ¬ hold < 0 := by omega
    have h2' : 256 < hold := by omega
    go_enter Tryz.func11, Tryz.ntmps11
    go_wp2
    refine bodyPost_ret (results_tmp2 rfl _ _ _) rfl ?_
    exact ⟨Below.refl _ _, .inr ⟨1, .inl ⟨by omega, rfl⟩, rfl⟩⟩
  have h1' : ¬ hold < 0 := by omega
  have h2' : ¬ 256 < hold := by omega
  have HH : Hid (0 ≤ hold ∧ hold ≤ 256) := ⟨h1, h2⟩
  obtain ⟨ck, hck⟩ : ∃ ck, chk l = ck := ⟨_, rfl⟩
  rw [hck] at HC
  have Hck := hide hck
  clear h1 h2 hck
  by_cases h0 : ck = 0
  rotate_left
  · have h0' : (ck != 0) = true := by simpa using h0
    have H0 := hide h0
    clear h0
    go_enter Tryz.func11, Tryz.ntmps11
    go_wp2_with fail
    refine (unhide HC).mono ?_
    rintro e W1 ⟨rfl, hb⟩
    replace hb := hide hb
    go_wp2
    refine bodyPost_ret (results_tmp2 rfl _ _ _) rfl ?_
    exact ⟨unhide hb, .inr ⟨ck, .inr ⟨(unhide HH).1, (unhide HH).2, unhide Hck, unhide H0⟩, rfl⟩⟩
  · subst h0
    go_enter Tryz.func11, Tryz.ntmps11
    go_wp2_with fail
    refine (unhide HC).mono ?_
    rintro e W1 ⟨rfl, hb⟩
    have HF1 := hide (unhide HF W1 hb)
    replace hb := hide hb
    clear HC HF
    go_wp2_with fail
    refine (unhide HF1).mono ?_
    rintro e W2 ⟨v2, rfl, ho2, hb2⟩
    obtain ⟨a2, c2, rfl⟩ := OwD.form ho2
    have O2 := hide ho2
    have B2 := hide (bnext (unhide hb) hb2)
    clear HF1 ho2 hb2
    go_wp2
    refine bodyPost_ret (results_tmp2 rfl _ _ _) rfl ?_
    have hz := (unhide B2).size
    have hz1 := (unhide hb).size
    refine ⟨ballc (unhide B2) _, .inl ⟨W2.heap.size, _, (unhide HH).1, (unhide HH).2, unhide Hck, rfl, ⟨Bx.new _ _ _, ?_, World.ownsRow_nil _ _ _ _, RdA.nil _, fun e he => (by cases he), fun e he => (by cases he), hz, fun k hk => ?_, fun k hk => (by cases hk), fun k hk => (by cases hk), fun k hk => (by cases hk), hl, Apt.nil _⟩⟩⟩
    · exact owns_kp (N := fun _ => False) (OwD.base (unhide O2) (Nat.zero_le _)) (Kp.of_below (ballc (Below.refl _ _) _)) (fun _ _ e => e)
    · have := (World.ownsRow.lt (unhide O2) k hk).1
      omega
theorem QM.c0 (h : QM P W b hold vh vw vr hv ws rd) : W.cell? ⟨b, 0, none⟩ = some (.int .i64 hold) := h.box.cell 0 _ rfl
theorem QM.c1 (h : QM P W b hold vh vw vr hv ws rd) : W.cell? ⟨b, 1, none⟩ = some vh := h.box.cell 1 _ rfl
theorem QM.c2 (h : QM P W b hold vh vw vr hv ws rd) : W.cell? ⟨b, 2, none⟩ = some vw := h.box.cell 2 _ rfl
theorem QM.c3 (h : QM P W b hold vh vw vr hv ws rd) : W.cell? ⟨b, 3, none⟩ = some vr := h.box.cell 3 _ rfl
set_option maxRecDepth 100000 in
theorem Free_in (h : QM P w b hold vh vw vr hv ws rd) (hh : 0 ≤ hold ∧ hold ≤ 256) (hl : ws.length ≤ 1000000) : Calls Tryz.prog 19 #[.pointer (some ⟨b, 0, none⟩)] w fun e W => e = .returned (.int .i64 (hold - (ws.length : Nat))) ∧ Below w.heap.size w W := by
  have c0 := h.c0
  have c2 := h.c2
  obtain ⟨a, c, rfl⟩ := owns_form h.rw
  clear h
  generalize ws.length = n at *
  have hw1 : -9223372036854775808 ≤ hold - (n : Int) := by omega
  have hw2 : hold - (n : Int) ≤ 9223372036854775807 := by omega
  go_enter Tryz.func19, Tryz.ntmps19
  go_wp2
  go_quiet (fail)
  go_wp2
  go_ret
  exact ⟨rfl, bdrew (Below.refl _ _) _⟩
theorem Free_nil (w : World) : Calls Tryz.prog 19 #[.pointer none] w fun e W => e = .returned (.int .i64 0) ∧ w = W := by
  go_enter Tryz.func19, Tryz.ntmps19
  go_wp2
  go_ret
  exact ⟨rfl, rfl⟩
set_option maxRecDepth 100000 in
theorem Vector_in (h : QM P w b hold vh vw vr hv ws rd) : Calls Tryz.prog 20 #[.pointer (some ⟨b, 0, none⟩)] w fun e W => ∃ v', e = .returned v' ∧ OwD W w.heap.size v' hv ∧ Below w.heap.size w W := by
  have c1 := h.c1
  have HF := hide (freshD_in vh hv w (OwD.row h.rh) h.hl)
  obtain ⟨a, c, rfl⟩ := OwD.form h.rh
  clear h
  go_enter Tryz.func20, Tryz.ntmps20
  go_wp2_with fail
  refine (unhide HF).mono ?_
  rintro e W2 ⟨v2, rfl, ho2, hb2⟩
  replace ho2 := hide ho2
  replace hb2 := hide hb2
  clear HF
  go_wp2
  go_ret
  exact ⟨_, rfl, unhide ho2, unhide hb2⟩
theorem Vector_nil (w : World) : Calls Tryz.prog 20 #[.pointer none] w fun e W => e = .returned (.slice none 0 0) ∧ w = W := by
  go_enter Tryz.func20, Tryz.ntmps20
  go_wp2
  go_ret
  exact ⟨rfl, rfl⟩

end Go.Proofs.YtkkolefionbbcaaGreat
