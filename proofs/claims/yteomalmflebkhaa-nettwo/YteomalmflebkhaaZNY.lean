/-
  Within a law: a Net, a step's box, copies that were told.
-/
import Derived.Test.YteomalmflebkhaaZNX
set_option linter.unusedSimpArgs false
set_option linter.unusedVariables false
namespace Go.Proofs.Yteomalmflebkhaa
open Go.RowKit Go.Lib

variable {P N S S' : Nat → Prop} {w W W' V V' : World} {b p f m B : Nat} {c : Cp} {s s' : Stn} {v u : Value} {e : Ending} {L : List (Cp × Value)} {x : Stp}
/-- a Net in new memory, and a step in a box beside it -/
structure RJ (w : World) (bx : Nat) (x : Stp) (S : Nat → Prop) (V : World) (b : Nat) (s : Stn) : Prop where
  kn : KN w S V b s
  bo : Bx V bx 32 (stC x)
  ns : ¬ S bx
theorem RJ.below {q : Nat} (h : RJ w q x S V b s) (hb : Below V.heap.size V V') : RJ w q x S V' b s := ⟨h.kn.below hb, h.bo.below hb, h.ns⟩
theorem RJ.dn {q : Nat} (h : RJ w q x S V b s) (k : KN w S' V' b s') (d : DN S S' V V') : RJ w q x S' V' b s' := ⟨k, (h.bo.dn d h.ns).1, (h.bo.dn d h.ns).2⟩
theorem RJ.call {q : Nat} (h : RJ w q x S V b s) (hc : CN S V b s' u e V') : e = .returned u ∧ ∃ S', RJ w q x S' V' b s' ∧ DN S S' V V' := by
  obtain ⟨h1, S', k, d⟩ := h.kn.call hc
  exact ⟨h1, S', h.dn k d, d⟩
theorem RJ.hp {q : Nat} (h : RJ w q x S V b s) : ∀ i, S i → i < V.heap.size := fun i hi => (h.kn.lo i hi).2
theorem RJ.y {q : Nat} (h : RJ w q x S V b s) : V.cell? ⟨q, 0, none⟩ = some (.int .i64 x.kind) ∧ V.cell? ⟨q, 1, none⟩ = some (.int .i64 x.num) ∧ V.cell? ⟨q, 2, none⟩ = some (.int .i64 x.frm) ∧ V.cell? ⟨q, 3, none⟩ = some (.int .i64 x.to) ∧ V.cell? ⟨q, 4, none⟩ = some (.int .i64 x.at_) ∧ V.cell? ⟨q, 5, none⟩ = some x.vd := ⟨h.bo.cell 0 _ rfl, h.bo.cell 1 _ rfl, h.bo.cell 2 _ rfl, h.bo.cell 3 _ rfl, h.bo.cell 4 _ rfl, h.bo.cell 5 _ rfl⟩
/-- the blocks of copies that were told -/
def blkC (v : Value) (L : List (Cp × Value)) (i : Nat) : Prop := v.ownBlock = some i ∨ ∃ y ∈ L, y.2.ownBlock = some i
theorem CL.blt (h : CL W B v L) : ∀ i, blkC v L i → B ≤ i ∧ i < W.heap.size := fun i hi => by
  rcases hi with hi | ⟨y, hy, hi⟩
  · exact World.ownsRow.lt h.row i hi
  · exact (h.dat y hy).lt i hi
theorem CL.kpb (h : CL W B v L) (k : Kp N W W') (hn : ∀ i, blkC v L i → ¬ N i) : CL W' B v L := ⟨owns_kp h.row k (fun i hi => hn i (.inl hi)), fun x hx => (h.dat x hx).kp k (fun i hi => hn i (.inr ⟨x, hx, hi⟩)), h.apt⟩
theorem CL.dn (h : CL W B v L) (d : DN S S' W W') (hs : ∀ i, blkC v L i → ¬ S i) : CL W' B v L ∧ ∀ i, blkC v L i → ¬ S' i := ⟨h.kpb d.kp hs, fun i hi e => by
  rcases d.gr i e with e | e
  · exact hs i hi e
  · have := (h.blt i hi).2; omega⟩
theorem CL.len (gd : Gd s) (h : L.map Prod.fst = s.ls) : ∀ y ∈ L, y.1.dat.length ≤ 1000000 := fun y hy => gd.dat (by rw [← h]; exact List.mem_map.2 ⟨y, hy, rfl⟩)
/-- where a copy stands: the last place below i -/
def atI (l : List Cp) (k : Int) : Nat → Int
  | 0 => -1
  | i + 1 => if (l[i]?).any (fun c => c.num == k) = true then (i : Int) else atI l k i
theorem atI_none {l : List Cp} {k : Int} (h : fnd l k = none) : ∀ i, atI l k i = -1
  | 0 => rfl
  | i + 1 => by
    unfold atI
    rw [if_neg]
    · exact atI_none h i
    · intro e
      cases hc : l[i]? with
      | none => rw [hc] at e; cases e
      | some c =>
        rw [hc] at e
        exact fnd_none h c (List.mem_of_getElem? hc) (by simpa using e)
theorem atI_some {l : List Cp} {k : Int} (hp : l.Pairwise (fun a b => a.num < b.num)) {c : Cp} (h : fnd l k = some c) : ∃ j : Nat, j < l.length ∧ l[j]? = some c ∧ ∀ i, j < i → i ≤ l.length → atI l k i = j := by
  obtain ⟨j, hj, e⟩ := List.mem_iff_getElem.1 (fnd_mem h)
  have hk := fnd_num h
  have hjc : l[j]? = some c := by rw [List.getElem?_eq_getElem hj, e]
  refine ⟨j, hj, hjc, fun i => ?_⟩
  induction i with
  | zero => intro h1; omega
  | succ i ih =>
    intro h1 h2
    unfold atI
    by_cases hij : i = j
    · subst hij
      rw [if_pos (by rw [hjc]; simpa using hk)]
    · rw [if_neg]
      · exact ih (by omega) (by omega)
      · intro q
        obtain ⟨d, hd⟩ : ∃ d, l[i]? = some d := ⟨_, List.getElem?_eq_getElem (by omega)⟩
        rw [hd] at q
        have hdn : d.num = k := by simpa using q
        have he := rise_inj hp d (List.mem_of_getElem? hd) c (fnd_mem h) (by rw [hdn, hk])
        have hlt := List.pairwise_iff_getElem.1 hp j i hj (by omega) (by omega)
        have e3 : l[i] = d := by
          have := List.getElem?_eq_getElem (l := l) (i := i) (by omega)
          rw [hd] at this
          exact (Option.some.inj this).symm
        rw [e, e3, he] at hlt
        omega
theorem upd_get {s : Stn} {k : Int} {g : Cp → Cp} {j : Nat} {c : Cp} (h : s.ls[j]? = some c) (hk : c.num = k) : (updS s k g).ls[j]? = some (g c) := by
  unfold updS
  simp only
  rw [List.getElem?_map, h]
  simp [hk]
theorem upd_len (s : Stn) (k : Int) (g : Cp → Cp) : (updS s k g).ls.length = s.ls.length := by unfold updS; simp
/-- altered: not the same -/
theorem alt_ne {k a : Int} {y : List Int} (gd : Gd s) (h : altE s k a y = 0) : eqL (altS s k a y).ls s.ls = false := by
  obtain ⟨c, hc, hf, hb⟩ := alt_ok h
  obtain ⟨j, hj, hjc, _⟩ := atI_some gd.ris hc
  cases e : eqL (altS s k a y).ls s.ls with
  | false => rfl
  | true =>
    unfold altS at e
    rw [if_pos h] at e
    have := eqL_get e (upd_get hjc (fnd_num hc)) hjc
    unfold eqC at this
    have h6 : (altC a y c).bad = c.bad := by simp at this; exact this.2
    rw [hb] at h6
    cases h6
theorem cut_ne {k n : Int} (gd : Gd s) (h : cutE s k n = 0) : eqL (cutS s k n).ls s.ls = false := by
  obtain ⟨c, hc, hf, hb⟩ := cut_ok h
  obtain ⟨j, hj, hjc, _⟩ := atI_some gd.ris hc
  cases e : eqL (cutS s k n).ls s.ls with
  | false => rfl
  | true =>
    unfold cutS at e
    rw [if_pos h] at e
    have := eqL_get e (upd_get hjc (fnd_num hc)) hjc
    unfold eqC at this
    have h6 : (cutC n c).bad = c.bad := by simp at this; exact this.2
    rw [hb] at h6
    cases h6
theorem alt_eqs {k a : Int} {y : List Int} (gd : Gd s) : ((altE s k a y == 0) == eqL (altS s k a y).ls s.ls) = false := by
  by_cases h : altE s k a y = 0
  · rw [alt_ne gd h, h]; rfl
  · rw [altS_no h, eqL_self, beq_eq_false_iff_ne.2 h]; rfl
theorem cut_eqs {k n : Int} (gd : Gd s) : ((cutE s k n == 0) == eqL (cutS s k n).ls s.ls) = false := by
  by_cases h : cutE s k n = 0
  · rw [cut_ne gd h, h]; rfl
  · rw [cutS_no h, eqL_self, beq_eq_false_iff_ne.2 h]; rfl
theorem cut_len (k n : Int) : (cutS s k n).ls.length = s.ls.length := by
  unfold cutS
  split
  · exact upd_len _ _ _
  · rfl
theorem alt_lenS (k a : Int) (y : List Int) : (altS s k a y).ls.length = s.ls.length := by
  unfold altS
  split
  · exact upd_len _ _ _
  · rfl
/-- the same place behind Alter -/
theorem alt_place {k a : Int} {y : List Int} {j : Nat} {c : Cp} (h : s.ls[j]? = some c) (hk : c.num = k) : ∃ d, (altS s k a y).ls[j]? = some d ∧ d.num = k := by
  unfold altS
  split
  · exact ⟨_, upd_get h hk, hk⟩
  · exact ⟨c, h, hk⟩

/-- a part of a row of bytes -/
theorem RB.sub {g o D k zz M : Nat} {d : List Int} (h : RB W (.slice (some ⟨g, o, none⟩) D k) d) (hD : d.length = D) (hz : zz + M ≤ D) (h1 : 1 ≤ M) : RB W (.slice (some ⟨g, o + zz, none⟩) M (k - zz)) ((d.drop zz).take M) := by
  have e : ((d.drop zz).take M).length = M := by rw [List.length_take, List.length_drop]; omega
  unfold RB
  rw [e]
  rcases h with ⟨h0, _⟩ | ⟨b, off, cap, e', h2, h3, hc⟩
  · omega
  · simp only [Value.slice.injEq, Option.some.injEq, Addr.mk.injEq, and_true] at e'
    obtain ⟨⟨rfl, rfl⟩, _, rfl⟩ := e'
    refine .inr ⟨g, o + zz, k - zz, rfl, by omega, h3, fun j x hx => ?_⟩
    rw [bC_take, bC_drop, List.getElem?_take] at hx
    split at hx
    · rw [List.getElem?_drop] at hx
      rw [Nat.add_assoc]
      exact hc _ x hx
    · cases hx

/-- x[l:l+M] -/
theorem sl_bb (w : World) (g o n c l M : Nat) (h : l + M ≤ c) (hne : c ≠ l) : (Instr.sliceAt 30 (.slice (some ⟨g, o, none⟩) n c) (some (.int .i64 (l : Nat))) (some (.int .i64 ((l : Int) + (M : Int)))) none).run Try.prog w = .ok (.slice (some ⟨g, o + l, none⟩) M (c - l)) w := by
  obtain ⟨i0, hi, hz0, hz1, hz2⟩ := info_parts infoB
  have h1 : (l : Int) + (M : Int) ≤ (c : Int) := by omega
  have h2 : ((l : Int) + (M : Int)).toNat = l + M := by omega
  have h3 : (0 : Int) ≤ (l : Int) + (M : Int) := by omega
  have h4 : (l : Int) ≤ (l : Int) + (M : Int) := by omega
  simp [Instr.sliceAt, Instr.slice, run_underlying Try.underlying30, sizeOf, typeInfo, hi, hz1, go_sem, h1, h2, h3, h4, hne]

end Go.Proofs.Yteomalmflebkhaa
