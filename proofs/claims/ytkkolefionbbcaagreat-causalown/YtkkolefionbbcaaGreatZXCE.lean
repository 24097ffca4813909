/-
  Rows gone on from; two queues of the program and what was taken of the one, side by side.
-/
import Derived.Test.YtkkolefionbbcaaGreatZXCD3
import Derived.ArgAppend
import Derived.Laws.OwnMore

set_option linter.unusedSimpArgs false
set_option linter.unusedVariables false
namespace Go.Proofs.YtkkolefionbbcaaGreat
open Go.RowKit Go.Lib

theorem cell_kpE {N : Nat → Prop} {W W' : World} {b j : Nat} {u : Value} (h : W.cell? ⟨b, j, none⟩ = some u) (k : Kp N W W') (hn : ¬ N b) : W'.cell? ⟨b, j, none⟩ = some u := by
  have hl := World.block_lt_of_cell? W ⟨b, j, none⟩ h
  rw [← h]
  exact World.cell?_of_block (k.block b hl hn)
theorem cell_setE {w : World} {b p q : Nat} {t : TypeId} (x : Value) {u : Value} (hb : ∃ cur, Bx w b t cur) (h : w.cell? ⟨b, q, none⟩ = some u) (hne : p ≠ q) : (w.setCell ⟨b, p, none⟩ x).cell? ⟨b, q, none⟩ = some u := by
  obtain ⟨cur, hx⟩ := hb
  have h1 := hx.set p x
  have e : w.heap[b]? = some (.cells cur t (0, 0)) := hx
  simp [World.cell?, e] at h
  exact h1.cell q u (by rw [Array.getElem?_setIfInBounds_ne hne]; exact h)
theorem cell_setS {w : World} {b p : Nat} {t : TypeId} (x : Value) {u : Value} (hb : ∃ cur, Bx w b t cur) (h : w.cell? ⟨b, p, none⟩ = some u) : (w.setCell ⟨b, p, none⟩ x).cell? ⟨b, p, none⟩ = some x := by
  obtain ⟨cur, hx⟩ := hb
  have h1 := hx.set p x
  have e : w.heap[b]? = some (.cells cur t (0, 0)) := hx
  simp [World.cell?, e] at h
  have hp : p < cur.size := (Array.getElem?_eq_some_iff.1 h).1
  exact h1.cell p x (by simp [hp])
theorem OwX.box {W : World} {t : TypeId} {k n : Nat} {v : Value} (h : OwX W t k v n) {g : Nat} (hg : v.ownBlock = some g) : ∃ cur, Bx W g t cur := by
  obtain ⟨C, h1, h2 | ⟨g', cap, cur, rfl, hb, hg', _⟩⟩ := h
  · rw [h2.1] at hg; cases hg
  · simp [Value.ownBlock] at hg
    subst hg
    exact ⟨cur, hg'⟩
/-- append(row, x ..): what is in it is as it was -/
theorem app_y (TS E : TypeId) (k bytes : Nat) (z : Value) (ht : Tryz.prog.underlying TS = some (.slice E)) (hinf : (Tryz.prog.info? E).map (fun i => (i.zero, i.size, i.bytes)) = some (some z, k, bytes)) (hzs : z.cells.size = k) (k0 : 0 < k)
    (W : World) (ty : TypeId) (a : Option Addr) (n c m : Nat) (h : OwX W E k (.slice a n c) n) (nb : Nat) (vs : List Value) (hbx : Bx W nb E vs.toArray) (hl : vs.length = m * k) (m0 : 0 < m) (h1 : ∀ u ∈ vs, u.oneCell' = true) (hn : n ≤ 1000000) (hm : m ≤ 10) (hby : (n + m) * bytes ≤ 140737488355328) :
    ∃ g c' W', (Builtin.append_ #[TS, TS] ty #[.slice a n c, .slice (some ⟨nb, 0, none⟩) m m]).run Tryz.prog W = .ok (.slice (some ⟨g, 0, none⟩) (n + m) c') W' ∧ OwX W' E k (.slice (some ⟨g, 0, none⟩) (n + m) c') (n + m) ∧ SS W W' ∧ Kp (fun i => (Value.slice a n c).ownBlock = some i) W W' ∧ ((Value.slice a n c).ownBlock = some g ∨ W.heap.size ≤ g) ∧ (∀ b q x, (Value.slice a n c).ownBlock = some b → q < n * k → W.cell? ⟨b, q, none⟩ = some x → W'.cell? ⟨b, q, none⟩ = some x) := by
  obtain ⟨i0, hi, hz0, hz1, hz2⟩ := info_parts hinf
  have hcn : ∀ j u, vs[j]? = some u → W.cell? ((⟨nb, 0, none⟩ : Addr).add j) = some u := fun j u hu => by
    rw [Addr.add_lit, Nat.zero_add]
    exact hbx.cell j u (by rw [← hu]; simp)
  obtain ⟨C, h⟩ := h
  have hC := h.1
  rcases h.2 with ⟨he, he2⟩ | ⟨g, cap, cur, he, hb, hg, hc1, hc2, hc3, hc4⟩
  · simp only [Value.slice.injEq] at he
    obtain ⟨rfl, rfl, rfl⟩ := he
    obtain ⟨v', W', q1, q2, q3, q4, q5⟩ := run_append_own_at (P := Tryz.prog) W 0 TS ty E i0 z k bytes ht hi hz0 hz1 hz2 hzs k0 _ 0 C h ⟨nb, 0, none⟩ m m vs hl hcn h1 (by unfold maxLen; omega) (by omega) (Nat.zero_le _)
    obtain ⟨a', c', rfl⟩ := owns_form q2
    obtain ⟨g, rfl, _⟩ := (OwX.of q2).at (by omega)
    refine ⟨g, c', W', q1, OwX.of q2, SS.grown q3, Kp.of_grown q3 (fun k hk => hk), ?_, fun b q x hb => (by cases hb)⟩
    rcases q5 with q5 | q5
    · cases q5
    · simp [Value.ownBlock] at q5; exact .inr (by omega)
  · simp only [Value.slice.injEq] at he
    obtain ⟨rfl, _, rfl⟩ := he
    by_cases hf : n + m ≤ c
    · obtain ⟨W', q1, q2, q3⟩ := run_append_fits (P := Tryz.prog) W 0 TS ty E i0 k ht hi hz1 g n c C h ⟨nb, 0, none⟩ m m vs hl hcn h1 hf
      refine ⟨g, c, W', q1, OwX.of q2, fun i t cu hx => ?_, Kp.of_grown q3 (fun k hk => hk), .inl rfl, fun b q x hb hq hx => ?_⟩
      · by_cases e : i = g
        · subst e
          have hx' : W.heap[i]? = some (.cells cu t (0, 0)) := hx
          rw [hg] at hx'
          simp at hx'
          obtain ⟨rfl, rfl⟩ := hx'
          rcases q2.2 with ⟨e, _⟩ | ⟨g', cap', cur', e, _, hg', _, _, hc3', _⟩
          · cases e
          · simp at e
            obtain ⟨rfl, rfl⟩ := e
            exact ⟨cur', hg', hc3'.trans hc3.symm⟩
        · exact ⟨cu, (q3.block i hx.lt (by simpa using e)).trans hx, rfl⟩
      · simp [Value.ownBlock] at hb
        subst hb
        rw [h.cellAt q hq] at hx
        have hlt : n * k ≤ (n + m) * k := Nat.mul_le_mul_right _ (by omega)
        rw [q2.cellAt q (by omega), List.getElem?_append_left (by omega)]
        exact hx
    · obtain ⟨v', W', q1, q2, q3⟩ := run_append_arg_grows (P := Tryz.prog) W TS ty E i0 z k bytes ht hi hz0 hz1 hz2 hzs k0 ⟨g, 0, none⟩ n c C hC (fun j u hj => by
        rw [Addr.add_lit, Nat.zero_add]
        have hjl := (List.getElem?_eq_some_iff.1 hj).1
        exact (h.cellAt j (by omega)).trans hj) ⟨nb, 0, none⟩ m m vs hl hcn (by omega) (by unfold maxLen; omega) hby
      obtain ⟨a', c', rfl⟩ := owns_form q2
      obtain ⟨g', rfl, _⟩ := (OwX.of q2).at (by omega)
      refine ⟨g', c', W', q1, OwX.of q2, SS.grown q3, ?_, .inr (q2.lt g' rfl).1, fun b q x hb hq hx => ?_⟩
      · exact Kp.of_grown (N := fun i => (Value.slice (some ⟨g, 0, none⟩) n c).ownBlock = some i) (W' := W') (row := (Value.slice (some ⟨g, 0, none⟩) n c).ownBlock) ⟨q3.os, q3.tape, q3.output, q3.size, fun i hi _ => q3.block i hi (by simp)⟩ (fun k hk => hk)
      · have hl := World.block_lt_of_cell? W ⟨b, q, none⟩ hx
        rw [← hx]
        exact World.cell?_of_block (q3.block b hl (by simp))

/-- a row that is filled up to n -/
def Fil (k : Nat) (W : World) (v : Value) (n : Nat) (c : List Value) : Prop := ∀ g q j x, v.ownBlock = some g → q < n → c[j]? = some x → W.cell? ⟨g, q * k + j, none⟩ = some x
theorem Fil.zero (k : Nat) (W : World) (v : Value) (c : List Value) : Fil k W v 0 c := fun g q j x _ h => by omega
theorem Fil.kp {N : Nat → Prop} {W W' : World} {k n : Nat} {v : Value} {c : List Value} (h : Fil k W v n c) (kk : Kp N W W') (hn : ∀ g, v.ownBlock = some g → ¬ N g) : Fil k W' v n c := fun g q j x hg hq hj => cell_kpE (h g q j x hg hq hj) kk (hn g hg)
/-- an operation whose lists are one's own -/
structure KX (W : World) (e : Opn × Value × Value) : Prop where
  d : OwX W 28 2 e.2.1 e.1.deps.length
  g : OwX W 72 3 e.2.2 e.1.gone.length
  s1 : e.1.deps.length ≤ 1000000
  s2 : e.1.gone.length ≤ 1000000
theorem KX.ss {W W' : World} {e : Opn × Value × Value} (h : KX W e) (s : SS W W') : KX W' e := ⟨h.d.ss s, h.g.ss s, h.s1, h.s2⟩
theorem KX.one {W : World} {e : Opn × Value × Value} (h : KX W e) : ∀ u ∈ encO e, u.oneCell' = true := by
  obtain ⟨a, c, h1⟩ := h.d.form
  obtain ⟨a', c', h2⟩ := h.g.form
  intro u hu
  unfold encO at hu
  rw [h1, h2] at hu
  simp at hu
  rcases hu with rfl | rfl | rfl | rfl | rfl | rfl | rfl | rfl | rfl | rfl | rfl <;> rfl
/-- the blocks of what was kept -/
def KB (ks : List (Opn × Value × Value)) (i : Nat) : Prop := ∃ e ∈ ks, e.2.1.ownBlock = some i ∨ e.2.2.ownBlock = some i
/-- two queues, and a row of what was taken of the first -/
structure OS (w : World) (A B K : Nat → Prop) (b r : Nat) (hold : Int) (hv : List (Int × Int)) (ws rd : List Opn) (hu : List (Int × Int)) (us ud : List Opn) (kv : Value) (ks : List (Opn × Value × Value)) (W : World) : Prop where
  qa : QP A W b hold hv ws rd
  qb : QP B W r hold hu us ud
  row : W.ownsRow 0 42 11 kv ks.length (flat encO ks)
  ent : ∀ e ∈ ks, KX W e
  apt : ks.Pairwise ApE
  kb : ∀ k, kv.ownBlock = some k → K k
  ke : ∀ i, KB ks i → K i
  da : ∀ i, A i → ¬ B i ∧ ¬ K i
  db : ∀ i, B i → ¬ K i
  lo : ∀ i, (A i ∨ B i ∨ K i) → w.heap.size ≤ i ∧ i < W.heap.size
  bel : Below w.heap.size w W
variable {w W W' : World} {A B K N : Nat → Prop} {b r : Nat} {hold : Int} {hv hu : List (Int × Int)} {ws rd us ud : List Opn} {kv : Value} {ks : List (Opn × Value × Value)}
theorem QP.mono {P P' : Nat → Prop} (h : QP P W b hold hv ws rd) (hp : ∀ i, P i → P' i) : QP P' W b hold hv ws rd := by
  obtain ⟨vh, vw, vr, wt, rt, q, e⟩ := h
  exact ⟨vh, vw, vr, wt, rt, q.mono hp, e⟩
/-- something else is written -/
theorem OS.kp (h : OS w A B K b r hold hv ws rd hu us ud kv ks W) (k : Kp N W W') (s : SS W W') (hn : ∀ i, N i → w.heap.size ≤ i ∧ ¬ A i ∧ ¬ B i ∧ ¬ K i) : OS w A B K b r hold hv ws rd hu us ud kv ks W' :=
  ⟨h.qa.kp k (fun i e => (hn i e).2.1), h.qb.kp k (fun i e => (hn i e).2.2.1), owns_kp h.row k (fun i hi e => (hn i e).2.2.2 (h.kb i hi)), fun e he => (h.ent e he).ss s, h.apt, h.kb, h.ke, h.da, h.db, fun i hi => ⟨(h.lo i hi).1, by have := (h.lo i hi).2; have := k.size; omega⟩, k.below h.bel (fun i e => (hn i e).1)⟩
theorem OS.below (h : OS w A B K b r hold hv ws rd hu us ud kv ks W) (hb : Below W.heap.size W W') : OS w A B K b r hold hv ws rd hu us ud kv ks W' := h.kp (N := fun _ => False) (Kp.of_below hb) (SS.below hb) (fun _ e => e.elim)
/-- what is new is written -/
theorem OS.go {W0 : World} (h : OS w A B K b r hold hv ws rd hu us ud kv ks W) (hb : Below W.heap.size W W0) (k : Kp (fun i => W.heap.size ≤ i) W0 W') (s : SS W0 W') : OS w A B K b r hold hv ws rd hu us ud kv ks W' := by
  have hz := h.bel.size
  refine (h.below hb).kp k s (fun i e => ⟨by omega, fun e' => ?_, fun e' => ?_, fun e' => ?_⟩)
  · have := (h.lo i (.inl e')).2; omega
  · have := (h.lo i (.inr (.inl e'))).2; omega
  · have := (h.lo i (.inr (.inr e'))).2; omega
/-- what was kept is written over -/
theorem OS.wr (h : OS w A B K b r hold hv ws rd hu us ud kv ks W) (k : Kp N W W') (s : SS W W') (hn : ∀ i, N i → KB ks i ∨ W.heap.size ≤ i) : OS w A B K b r hold hv ws rd hu us ud kv ks W' := by
  have hz := h.bel.size
  have hK : ∀ i, N i → (A i → False) ∧ (B i → False) := fun i e => by
    rcases hn i e with q | q
    · exact ⟨fun e' => (h.da i e').2 (h.ke i q), fun e' => h.db i e' (h.ke i q)⟩
    · exact ⟨fun e' => by have := (h.lo i (.inl e')).2; omega, fun e' => by have := (h.lo i (.inr (.inl e'))).2; omega⟩
  refine ⟨h.qa.kp k (fun i e => (hK i e).1), h.qb.kp k (fun i e => (hK i e).2), owns_kp h.row k (fun i hi e => ?_), fun e he => (h.ent e he).ss s, h.apt, h.kb, h.ke, h.da, h.db, fun i hi => ⟨(h.lo i hi).1, by have := (h.lo i hi).2; have := k.size; omega⟩, k.below h.bel (fun i e => ?_)⟩
  · rcases hn i e with ⟨x, hx, q⟩ | q
    · obtain ⟨c, fz, hc⟩ := ownsRow_kind h.row i hi
      rcases q with q | q
      · obtain ⟨cur, hb⟩ := (h.ent x hx).d.box q
        exact ne_types hb hc (by decide)
      · obtain ⟨cur, hb⟩ := (h.ent x hx).g.box q
        exact ne_types hb hc (by decide)
    · have := (h.row.lt i hi).2; omega
  · rcases hn i e with q | q
    · exact (h.lo i (.inr (.inr (h.ke i q)))).1
    · omega
end Go.Proofs.YtkkolefionbbcaaGreat

/-
  What the law does with two queues and what it keeps.
-/
set_option linter.unusedSimpArgs false
set_option linter.unusedVariables false
namespace Go.Proofs.YtkkolefionbbcaaGreat
open Go.RowKit Go.Lib

variable {w W W' : World} {A B K N P : Nat → Prop} {b r : Nat} {hold : Int} {hv hu : List (Int × Int)} {ws rd us ud : List Opn} {kv : Value} {ks : List (Opn × Value × Value)}
def zeroP : Opn := ⟨0, 0, [], 0, 0, 0, 0, 0, ⟨#[]⟩, [], 0⟩
def hdP (rd : List Opn) : Opn := rd.headD zeroP
def isP (rd : List Opn) : Bool := !rd.isEmpty
theorem KX.kp {e : Opn × Value × Value} (h : KX W e) (k : Kp N W W') (hn : ∀ i, KB [e] i → ¬ N i) : KX W' e := by
  obtain ⟨C, h1⟩ := h.d
  obtain ⟨D, h2⟩ := h.g
  exact ⟨⟨C, owns_kp h1 k (fun i hi e' => hn i ⟨e, List.mem_singleton_self _, .inl hi⟩ e')⟩, ⟨D, owns_kp h2 k (fun i hi e' => hn i ⟨e, List.mem_singleton_self _, .inr hi⟩ e')⟩, h.s1, h.s2⟩
theorem KX.below {e : Opn × Value × Value} (h : KX W e) (hb : Below W.heap.size W W') : KX W' e := h.ss (SS.below hb)
theorem KB.of {e : Opn × Value × Value} (he : e ∈ ks) {i : Nat} (h : KB [e] i) : KB ks i := by
  obtain ⟨x, hx, q⟩ := h
  rw [List.mem_singleton] at hx
  subst hx
  exact ⟨x, he, q⟩
theorem OE.kx {x : Opn × Value × Value} (h : OE P W x) : KX W x := ⟨OwX.of h.d, OwX.of h.g, h.s1, h.s2⟩
/-- the first queue, or the second, is another one behind a call -/
theorem OS.newA {A' : Nat → Prop} {hv' : List (Int × Int)} {ws' rd' : List Opn} (h : OS w A B K b r hold hv ws rd hu us ud kv ks W) (hq : QP A' W' b hold hv' ws' rd') (ha : ∀ i, A' i → (A i ∨ W.heap.size ≤ i) ∧ i < W'.heap.size) (k : Kp A W W') : OS w A' B K b r hold hv' ws' rd' hu us ud kv ks W' := by
  have hz := h.bel.size
  have ks' := k.size
  have hl := h.lo
  refine ⟨hq, h.qb.kp k (fun i e e' => (h.da i e).1 e'), owns_kp h.row k (fun i hi e => (h.da i e).2 (h.kb i hi)), fun e he => (h.ent e he).kp k (fun i hi e' => (h.da i e').2 (h.ke i (hi.of he))), h.apt, h.kb, h.ke, fun i hi => ?_, h.db, fun i hi => ?_, k.below h.bel (fun i e => (hl i (.inl e)).1)⟩
  · rcases (ha i hi).1 with e | e
    · exact h.da i e
    · exact ⟨fun q => by have := (hl i (.inr (.inl q))).2; omega, fun q => by have := (hl i (.inr (.inr q))).2; omega⟩
  · rcases hi with e | e
    · refine ⟨?_, (ha i e).2⟩
      rcases (ha i e).1 with q | q
      · exact (hl i (.inl q)).1
      · omega
    · have := hl i (.inr e); exact ⟨this.1, by omega⟩
theorem OS.newB {B' : Nat → Prop} {hu' : List (Int × Int)} {us' ud' : List Opn} (h : OS w A B K b r hold hv ws rd hu us ud kv ks W) (hq : QP B' W' r hold hu' us' ud') (ha : ∀ i, B' i → (B i ∨ W.heap.size ≤ i) ∧ i < W'.heap.size) (k : Kp B W W') : OS w A B' K b r hold hv ws rd hu' us' ud' kv ks W' := by
  have hz := h.bel.size
  have ks' := k.size
  have hl := h.lo
  refine ⟨h.qa.kp k (fun i e e' => (h.da i e').1 e), hq, owns_kp h.row k (fun i hi e => h.db i e (h.kb i hi)), fun e he => (h.ent e he).kp k (fun i hi e' => h.db i e' (h.ke i (hi.of he))), h.apt, h.kb, h.ke, fun i hi => ⟨fun e => ?_, (h.da i hi).2⟩, fun i hi => ?_, fun i hi => ?_, k.below h.bel (fun i e => (hl i (.inr (.inl e))).1)⟩
  · rcases (ha i e).1 with q | q
    · exact (h.da i hi).1 q
    · have := (hl i (.inl hi)).2; omega
  · rcases (ha i hi).1 with e | e
    · exact h.db i e
    · exact fun q => by have := (hl i (.inr (.inr q))).2; omega
  · rcases hi with e | e | e
    · have := hl i (.inl e); exact ⟨this.1, by omega⟩
    · refine ⟨?_, (ha i e).2⟩
      rcases (ha i e).1 with q | q
      · exact (hl i (.inr (.inl q))).1
      · omega
    · have := hl i (.inr (.inr e)); exact ⟨this.1, by omega⟩
/-- Offer -/
theorem QP.off (h : QP P W b hold hv ws rd) (hd : 0 ≤ hold ∧ hold ≤ 256) (o : Opn) (vd vg : Value) (rdd : RI W vd o.deps) (rgg : RR W vg o.gone) (h1 : o.deps.length ≤ 3000) (h2 : o.gone.length ≤ 3000) (h3 : o.text.size ≤ 3000) (hin : InO o) (hl : ws.length + rd.length ≤ 1000) : Calls Tryz.prog 15 #[.pointer (some ⟨b, 0, none⟩), opA o vd vg] W fun e W' => e = .returned (.tuple #[.int .i64 (offA hold hv ws rd o).1.1, .int .i64 (offA hold hv ws rd o).1.2]) ∧ ∃ P', QP P' W' b hold (offA hold hv ws rd o).2.1 (offA hold hv ws rd o).2.2.1 (offA hold hv ws rd o).2.2.2 ∧ (∀ i, P' i → (P i ∨ W.heap.size ≤ i) ∧ i < W'.heap.size) ∧ Kp P W W' := by
  obtain ⟨vh, vw, vr, wt, rt, q, e1, e2⟩ := h
  have l1 : wt.length = ws.length := by rw [← e1, List.length_map]
  have l2 : rt.length = rd.length := by rw [← e2, List.length_map]
  refine (Offer_in q o vd vg rdd rgg (by omega) (by omega) (by omega) hin hd (by omega)).mono ?_
  rintro e W' ⟨rfl, hq, k⟩
  rw [e1, e2] at hq
  rw [e1, e2]
  exact ⟨rfl, _, QP.tight hq, fun i hi => hi, k⟩
/-- Take: what is given lies in blocks that the queue does not have any more -/
theorem QP.take (h : QP P W b hold hv ws rd) (hlt : ∀ i, P i → i < W.heap.size) (hl : rd.length ≤ 1000) : Calls Tryz.prog 16 #[.pointer (some ⟨b, 0, none⟩)] W fun e W' => ∃ ad cd ag cg P', e = .returned (.tuple #[opA (hdP rd) (.slice ad (hdP rd).deps.length cd) (.slice ag (hdP rd).gone.length cg), .bool (isP rd)]) ∧ QP P' W' b hold hv ws rd.tail ∧ (∀ i, P' i → P i) ∧ OE P W' (hdP rd, .slice ad (hdP rd).deps.length cd, .slice ag (hdP rd).gone.length cg) ∧ (∀ i, KB [(hdP rd, .slice ad (hdP rd).deps.length cd, .slice ag (hdP rd).gone.length cg)] i → ¬ P' i) ∧ Kp P W W' := by
  obtain ⟨vh, vw, vr, wt, rt, q, e1, e2⟩ := h
  cases rt with
  | nil =>
    have : rd = [] := by simpa using e2.symm
    subst this
    refine (Take_none q).mono ?_
    rintro e W' ⟨rfl, hb⟩
    refine ⟨none, 0, none, 0, P, rfl, ⟨vh, vw, vr, wt, [], q.below hb, e1, rfl⟩, fun i hi => hi, ⟨World.ownsRow_nil _ _ _ _, World.ownsRow_nil _ _ _ _, fun k hk => (by cases hk), fun k hk => (by cases hk), by decide, by decide, by decide, by constructor <;> first | (unfold in64; simp [hdP, zeroP]; done) | (simp [hdP, zeroP]; done) | decide | (intro e he; cases he)⟩, fun i hi => ?_, Kp.of_below hb⟩
    obtain ⟨x, hx, q⟩ := hi
    rw [List.mem_singleton] at hx
    subst hx
    rcases q with q | q <;> cases q
  | cons x rt =>
    cases rd with
    | nil => simp at e2
    | cons o rd =>
      simp only [List.map_cons, List.cons.injEq] at e2
      obtain ⟨rfl, e2⟩ := e2
      have l2 : rt.length = rd.length := by rw [← e2, List.length_map]
      simp only [List.length_cons] at hl
      refine (Take_some q (by omega)).mono ?_
      rintro e W' ⟨rfl, ⟨vr', q'⟩, hoe, k⟩
      obtain ⟨x, vd, vg⟩ := x
      obtain ⟨ad, cd, f1⟩ := OwD.form hoe.d
      obtain ⟨ag, cg, f2⟩ := OwR.form hoe.g
      simp only at f1 f2
      subst f1
      subst f2
      have hap : Apt vh ((x, Value.slice ad x.deps.length cd, Value.slice ag x.gone.length cg) :: (wt ++ rt)) := q.dj.perm List.perm_middle
      refine ⟨ad, cd, ag, cg, _, rfl, ⟨vh, vw, vr', wt, rt, q'.less hoe hap, e1, e2⟩, fun i hi => hi.1, hoe, fun i hi e => ?_, k⟩
      obtain ⟨y, hy, q⟩ := hi
      rw [List.mem_singleton] at hy
      subst hy
      exact q.elim e.2.1 e.2.2
theorem QP.waits (h : QP P W b hold hv ws rd) (hl : ws.length ≤ 1000) : Calls Tryz.prog 18 #[.pointer (some ⟨b, 0, none⟩)] W fun e W' => ∃ a c, e = .returned (.slice a ws.length c) ∧ W'.ownsRow W.heap.size 28 2 (.slice a ws.length c) ws.length (flat encI (sortI (ws.map dotO))) ∧ Below W.heap.size W W' := by
  obtain ⟨vh, vw, vr, wt, rt, q, e1, e2⟩ := h
  have l1 : wt.length = ws.length := by rw [← e1, List.length_map]
  have d1 : dotsT wt = ws.map dotO := by rw [← e1, List.map_map]; rfl
  refine (Waits_in q (by omega)).mono ?_
  rintro e W' ⟨v', rfl, ho, hb⟩
  rw [d1] at ho
  obtain ⟨a, c, rfl⟩ := owns_form ho
  rw [l1] at ho ⊢
  exact ⟨a, c, rfl, ho, hb⟩
theorem waits_row {W : World} {B : Nat} {a : Option Addr} {c : Nat} (h : W.ownsRow B 28 2 (.slice a ws.length c) ws.length (flat encI (sortI (ws.map dotO)))) : RI W (.slice a ws.length c) (sortI (ws.map dotO)) := by
  unfold RI
  rw [show (sortI (ws.map dotO)).length = ws.length by rw [(sortI_perm _).length_eq, List.length_map]]
  exact RC.of_owns h
theorem QP.vec (h : QP P W b hold hv ws rd) : Calls Tryz.prog 20 #[.pointer (some ⟨b, 0, none⟩)] W fun e W' => ∃ a c, e = .returned (.slice a hv.length c) ∧ OwD W' W.heap.size (.slice a hv.length c) hv ∧ Below W.heap.size W W' := by
  obtain ⟨vh, vw, vr, wt, rt, q, e1, e2⟩ := h
  refine (Vector_in q).mono ?_
  rintro e W' ⟨v', rfl, ho, hb⟩
  obtain ⟨a, c, rfl⟩ := OwD.form ho
  exact ⟨a, c, rfl, ho, hb⟩
theorem QP.hlen (h : QP P W b hold hv ws rd) : hv.length ≤ 1000000 := by
  obtain ⟨vh, vw, vr, wt, rt, q, e1, e2⟩ := h
  exact q.hl
/-- kept = append(kept, a) -/
theorem OS.push {x : Opn × Value × Value} (h : OS w A B K b r hold hv ws rd hu us ud kv ks W) (hx : KX W x) (hxb : ∀ i, KB [x] i → w.heap.size ≤ i ∧ i < W.heap.size ∧ ¬ A i ∧ ¬ B i ∧ ¬ K i) {nb : Nat} (hbx : Bx W nb 42 (encO x).toArray) (hn : ks.length ≤ 100000) :
    ∃ v' W', (Builtin.append_ #[47, 47] 47 #[kv, .slice (some ⟨nb, 0, none⟩) 1 1]).run Tryz.prog W = .ok v' W' ∧ ∃ K', OS w A B K' b r hold hv ws rd hu us ud v' (ks ++ [x]) W' := by
  obtain ⟨i0, hi, hz0, hz1, hz2⟩ := info_parts infoO
  obtain ⟨v', W', h1, h2, h3, h4, h5⟩ := run_append_own_at (P := Tryz.prog) W 0 47 47 42 i0 _ 11 128 Tryz.underlying47 hi hz0 hz1 hz2 rfl (by decide) kv ks.length _ h.row ⟨nb, 0, none⟩ 1 1 (encO x) (by rw [encO_len]) (fun j u hu => by
    rw [Addr.add_lit, Nat.zero_add]
    exact hbx.cell j u (by rw [← hu]; simp)) hx.one (by unfold maxLen; omega) (by omega) (Nat.zero_le _)
  have kk : Kp (fun i => kv.ownBlock = some i) W W' := Kp.of_grown h3 (fun k hk => hk)
  have hz := h.bel.size
  have kz := kk.size
  have hl := h.lo
  have ht : ∀ e, KX W e → ∀ i, KB [e] i → kv.ownBlock ≠ some i := fun e he i hi q => by
    obtain ⟨y, hy, q'⟩ := hi
    rw [List.mem_singleton] at hy
    subst hy
    obtain ⟨c, fz, hc⟩ := ownsRow_kind h.row i q
    rcases q' with q' | q'
    · obtain ⟨cur, hb⟩ := he.d.box q'
      exact ne_types hb hc (by decide)
    · obtain ⟨cur, hb⟩ := he.g.box q'
      exact ne_types hb hc (by decide)
  have hKB : ∀ i, KB (ks ++ [x]) i → KB ks i ∨ KB [x] i := fun i hi => by
    obtain ⟨e, he, q⟩ := hi
    rcases List.mem_append.1 he with he | he
    · exact .inl ⟨e, he, q⟩
    · exact .inr ⟨e, he, q⟩
  refine ⟨v', W', h1, fun i => (K i ∨ KB [x] i ∨ W.heap.size ≤ i) ∧ i < W'.heap.size, h.qa.kp kk (fun i e e' => (h.da i e').2 (h.kb i e)), h.qb.kp kk (fun i e e' => h.db i e' (h.kb i e)), ?_, fun e he => ?_, ?_, fun k hk => ?_, fun i hi => ?_, fun i hi => ⟨(h.da i hi).1, fun e => ?_⟩, fun i hi e => ?_, fun i hi => ?_, kk.below h.bel (fun i e => (hl i (.inr (.inr (h.kb i e)))).1)⟩
  · rw [List.length_append, List.length_singleton, flat_append]
    simpa [flat] using h2
  · rcases List.mem_append.1 he with he | he
    · exact (h.ent e he).kp kk (fun i hi q => ht e (h.ent e he) i hi q)
    · rw [List.mem_singleton] at he
      subst he
      exact hx.kp kk (fun i hi q => ht _ hx i hi q)
  · rw [List.pairwise_append]
    refine ⟨h.apt, List.pairwise_singleton _ _, fun e he y hy => ?_⟩
    rw [List.mem_singleton] at hy
    subst hy
    exact ⟨fun k h1 h2 => (hxb k ⟨y, List.mem_singleton_self _, .inl h2⟩).2.2.2.2 (h.ke k ⟨e, he, .inl h1⟩), fun k h1 h2 => (hxb k ⟨y, List.mem_singleton_self _, .inr h2⟩).2.2.2.2 (h.ke k ⟨e, he, .inr h1⟩)⟩
  · refine ⟨?_, (h2.lt k hk).2⟩
    rcases h5 with e | e
    · rw [e] at hk; exact .inl (h.kb k hk)
    · rw [e] at hk; simp at hk; exact .inr (.inr (by omega))
  · rcases hKB i hi with q | q
    · exact ⟨.inl (h.ke i q), by have := (hl i (.inr (.inr (h.ke i q)))).2; omega⟩
    · exact ⟨.inr (.inl q), by have := (hxb i q).2.1; omega⟩
  · rcases e.1 with q | q | q
    · exact (h.da i hi).2 q
    · exact (hxb i q).2.2.1 hi
    · have := (hl i (.inl hi)).2; omega
  · rcases e.1 with q | q | q
    · exact h.db i hi q
    · exact (hxb i q).2.2.2.1 hi
    · have := (hl i (.inr (.inl hi))).2; omega
  · rcases hi with e | e | e
    · have := hl i (.inl e); exact ⟨this.1, by omega⟩
    · have := hl i (.inr (.inl e)); exact ⟨this.1, by omega⟩
    · refine ⟨?_, e.2⟩
      rcases e.1 with q | q | q
      · exact (hl i (.inr (.inr q))).1
      · exact (hxb i q).1
      · omega

end Go.Proofs.YtkkolefionbbcaaGreat

/-
  What was kept is written over, and gone on from.
-/
set_option linter.unusedSimpArgs false
set_option linter.unusedVariables false
namespace Go.Proofs.YtkkolefionbbcaaGreat
open Go.RowKit Go.Lib

theorem OwX.cells {W : World} {t : TypeId} {k n : Nat} {v : Value} (h : OwX W t k v n) {g : Nat} (hg : v.ownBlock = some g) {q : Nat} (hq : q < n * k) : ∃ u, W.cell? ⟨g, q, none⟩ = some u := by
  obtain ⟨a, c, rfl⟩ := h.form
  have hn : 0 < n := by
    rcases Nat.eq_zero_or_pos n with e | e
    · subst e; omega
    · exact e
  obtain ⟨g', rfl, _, _, hc, _⟩ := h.at hn
  simp [Value.ownBlock] at hg
  subst hg
  exact hc q hq
theorem Fil.put2 {W : World} {t : TypeId} {v : Value} {n g k1 : Nat} {x y : Value} (hx : OwX W t 2 v n) (hg : v.ownBlock = some g) (hk : k1 < n) (h : Fil 2 W v k1 [x, y]) : Fil 2 ((W.setCell ⟨g, k1 * 2, none⟩ x).setCell ⟨g, k1 * 2 + 1, none⟩ y) v (k1 + 1) [x, y] := by
  intro g' q j z hg' hq hj
  rw [hg] at hg'
  cases hg'
  obtain ⟨cur, hb⟩ := hx.box hg
  obtain ⟨u0, h0⟩ := hx.cells hg (q := k1 * 2) (by omega)
  obtain ⟨u1, h1⟩ := hx.cells hg (q := k1 * 2 + 1) (by omega)
  have hb1 : ∃ cur, Bx (W.setCell ⟨g, k1 * 2, none⟩ x) g t cur := ⟨_, hb.set _ _⟩
  have h11 := cell_setE x ⟨cur, hb⟩ h1 (show k1 * 2 ≠ k1 * 2 + 1 by omega)
  have hj2 : j < 2 := (List.getElem?_eq_some_iff.1 hj).1
  by_cases e : q = k1
  · subst e
    match j, hj with
    | 0, hj =>
      simp at hj
      subst hj
      exact cell_setE y hb1 (cell_setS x ⟨cur, hb⟩ h0) (by omega)
    | 1, hj =>
      simp at hj
      subst hj
      exact cell_setS y hb1 h11
  · have := h g q j z hg (by omega) hj
    exact cell_setE y hb1 (cell_setE x ⟨cur, hb⟩ this (by omega)) (by omega)
theorem Fil.put3 {W : World} {t : TypeId} {v : Value} {n g k1 : Nat} {x y z : Value} (hx : OwX W t 3 v n) (hg : v.ownBlock = some g) (hk : k1 < n) (h : Fil 3 W v k1 [x, y, z]) : Fil 3 (((W.setCell ⟨g, k1 * 3, none⟩ x).setCell ⟨g, k1 * 3 + 1, none⟩ y).setCell ⟨g, k1 * 3 + 2, none⟩ z) v (k1 + 1) [x, y, z] := by
  intro g' q j u hg' hq hj
  rw [hg] at hg'
  cases hg'
  obtain ⟨cur, hb⟩ := hx.box hg
  obtain ⟨u0, h0⟩ := hx.cells hg (q := k1 * 3) (by omega)
  obtain ⟨u1, h1⟩ := hx.cells hg (q := k1 * 3 + 1) (by omega)
  obtain ⟨u2, h2⟩ := hx.cells hg (q := k1 * 3 + 2) (by omega)
  have hb1 : ∃ cur, Bx (W.setCell ⟨g, k1 * 3, none⟩ x) g t cur := ⟨_, hb.set _ _⟩
  have hb2 : ∃ cur, Bx ((W.setCell ⟨g, k1 * 3, none⟩ x).setCell ⟨g, k1 * 3 + 1, none⟩ y) g t cur := ⟨_, (hb.set _ _).set _ _⟩
  have h11 := cell_setE x ⟨cur, hb⟩ h1 (show k1 * 3 ≠ k1 * 3 + 1 by omega)
  have h21 := cell_setE y hb1 (cell_setE x ⟨cur, hb⟩ h2 (show k1 * 3 ≠ k1 * 3 + 2 by omega)) (show k1 * 3 + 1 ≠ k1 * 3 + 2 by omega)
  have hj2 : j < 3 := (List.getElem?_eq_some_iff.1 hj).1
  by_cases e : q = k1
  · subst e
    match j, hj with
    | 0, hj =>
      simp at hj
      subst hj
      exact cell_setE z hb2 (cell_setE y hb1 (cell_setS x ⟨cur, hb⟩ h0) (by omega)) (by omega)
    | 1, hj =>
      simp at hj
      subst hj
      exact cell_setE z hb2 (cell_setS y hb1 h11) (by omega)
    | 2, hj =>
      simp at hj
      subst hj
      exact cell_setS z hb2 h21
  · have := h g q j u hg (by omega) hj
    exact cell_setE z hb2 (cell_setE y hb1 (cell_setE x ⟨cur, hb⟩ this (by omega)) (by omega)) (by omega)

variable {w W W' : World} {A B K N P : Nat → Prop} {b r : Nat} {hold : Int} {hv hu : List (Int × Int)} {ws rd us ud : List Opn} {kv : Value} {ks : List (Opn × Value × Value)}
theorem OS.apart (h : OS w A B K b r hold hv ws rd hu us ud kv ks W) {i j : Nat} {e f : Opn × Value × Value} (he : ks[i]? = some e) (hf : ks[j]? = some f) (hne : i ≠ j) : ApE e f := by
  obtain ⟨hi, rfl⟩ := List.getElem?_eq_some_iff.1 he
  obtain ⟨hj, rfl⟩ := List.getElem?_eq_some_iff.1 hf
  rcases Nat.lt_or_gt_of_ne hne with q | q
  · exact List.pairwise_iff_getElem.1 h.apt i j hi hj q
  · exact (List.pairwise_iff_getElem.1 h.apt j i hj hi q).symm
theorem OS.uniq1 (h : OS w A B K b r hold hv ws rd hu us ud kv ks W) {e f : Opn × Value × Value} (he : e ∈ ks) (hf : f ∈ ks) {g : Nat} (h1 : e.2.1.ownBlock = some g) (h2 : f.2.1.ownBlock = some g) : e = f := by
  obtain ⟨i, hi⟩ := List.mem_iff_getElem?.1 he
  obtain ⟨j, hj⟩ := List.mem_iff_getElem?.1 hf
  by_cases e : i = j
  · subst e; rw [hi] at hj; exact Option.some.inj hj
  · exact absurd h2 ((h.apart hi hj e).1 g h1)
theorem OS.uniq2 (h : OS w A B K b r hold hv ws rd hu us ud kv ks W) {e f : Opn × Value × Value} (he : e ∈ ks) (hf : f ∈ ks) {g : Nat} (h1 : e.2.2.ownBlock = some g) (h2 : f.2.2.ownBlock = some g) : e = f := by
  obtain ⟨i, hi⟩ := List.mem_iff_getElem?.1 he
  obtain ⟨j, hj⟩ := List.mem_iff_getElem?.1 hf
  by_cases e : i = j
  · subst e; rw [hi] at hj; exact Option.some.inj hj
  · exact absurd h2 ((h.apart hi hj e).2 g h1)
theorem KX.ne {e f : Opn × Value × Value} (h : KX W e) (h' : KX W f) {g : Nat} (h1 : e.2.1.ownBlock = some g) : f.2.2.ownBlock ≠ some g := fun h2 => by
  obtain ⟨c, hb⟩ := h.d.box h1
  obtain ⟨c', hb'⟩ := h'.g.box h2
  exact ne_types hb hb' (by decide)
def dC (i : Nat) : List Value := [.int .i64 (2000 + (i : Int)), .int .i64 0]
def gC (i : Nat) : List Value := [.int .i64 0, .int .i64 0, .int .i64 (2000 + (i : Int))]
/-- those below i are written over, of the i-th one so many -/
structure PB (w : World) (A B K : Nat → Prop) (b r : Nat) (hold : Int) (hv : List (Int × Int)) (ws rd : List Opn) (hu : List (Int × Int)) (us ud : List Opn) (kv : Value) (ks : List (Opn × Value × Value)) (i k1 k2 : Nat) (W : World) : Prop where
  os : OS w A B K b r hold hv ws rd hu us ud kv ks W
  dn : ∀ j e, j < i → ks[j]? = some e → Fil 2 W e.2.1 e.1.deps.length (dC j) ∧ Fil 3 W e.2.2 e.1.gone.length (gC j)
  c1 : ∀ e, ks[i]? = some e → Fil 2 W e.2.1 k1 (dC i)
  c2 : ∀ e, ks[i]? = some e → Fil 3 W e.2.2 k2 (gC i)
theorem PB.start (h : OS w A B K b r hold hv ws rd hu us ud kv ks W) : PB w A B K b r hold hv ws rd hu us ud kv ks 0 0 0 W := ⟨h, fun j e hj => by omega, fun e _ => Fil.zero _ _ _ _, fun e _ => Fil.zero _ _ _ _⟩
theorem PB.next {i k1 k2 : Nat} {e : Opn × Value × Value} (h : PB w A B K b r hold hv ws rd hu us ud kv ks i k1 k2 W) (he : ks[i]? = some e) (h1 : k1 = e.1.deps.length) (h2 : k2 = e.1.gone.length) : PB w A B K b r hold hv ws rd hu us ud kv ks (i + 1) 0 0 W := by
  refine ⟨h.os, fun j f hj hf => ?_, fun e _ => Fil.zero _ _ _ _, fun e _ => Fil.zero _ _ _ _⟩
  by_cases q : j = i
  · subst q
    rw [he] at hf
    cases hf
    have := h.c1 e he
    have := h.c2 e he
    rw [← h1, ← h2]
    exact ⟨h.c1 e he, h.c2 e he⟩
  · exact h.dn j f (by omega) hf
theorem PB.put1 {i k1 k2 g : Nat} {e : Opn × Value × Value} (h : PB w A B K b r hold hv ws rd hu us ud kv ks i k1 k2 W) (he : ks[i]? = some e) (hg : e.2.1.ownBlock = some g) (hk : k1 < e.1.deps.length) : PB w A B K b r hold hv ws rd hu us ud kv ks i (k1 + 1) k2 ((W.setCell ⟨g, k1 * 2, none⟩ (.int .i64 (2000 + (i : Int)))).setCell ⟨g, k1 * 2 + 1, none⟩ (.int .i64 0)) := by
  have hm := List.mem_of_getElem? he
  have hx := h.os.ent e hm
  have kk : Kp (fun x => x = g) W ((W.setCell ⟨g, k1 * 2, none⟩ (.int .i64 (2000 + (i : Int)))).setCell ⟨g, k1 * 2 + 1, none⟩ (.int .i64 0)) := (Kp.set (N := fun x => x = g) _ _ _ rfl).trans (Kp.set (N := fun x => x = g) _ _ _ rfl) (fun i e => .inl e)
  refine ⟨h.os.wr kk ((SS.set _ _ _ _).trans (SS.set _ _ _ _)) (fun x q => .inl ⟨e, hm, .inl (by rw [q]; exact hg)⟩), fun j f hj hf => ?_, fun f hf => ?_, fun f hf => ?_⟩
  · have hmf := List.mem_of_getElem? hf
    exact ⟨(h.dn j f hj hf).1.kp kk (fun g' hg' q => by subst q; exact (h.os.apart hf he (by omega)).1 _ hg' hg), (h.dn j f hj hf).2.kp kk (fun g' hg' q => by subst q; exact hx.ne (h.os.ent f hmf) hg hg')⟩
  · rw [he] at hf
    cases hf
    exact Fil.put2 hx.d hg hk (h.c1 e he)
  · rw [he] at hf
    cases hf
    exact (h.c2 e he).kp kk (fun g' hg' q => by subst q; exact hx.ne hx hg hg')
theorem PB.put2 {i k1 k2 g : Nat} {e : Opn × Value × Value} (h : PB w A B K b r hold hv ws rd hu us ud kv ks i k1 k2 W) (he : ks[i]? = some e) (hg : e.2.2.ownBlock = some g) (hk : k2 < e.1.gone.length) : PB w A B K b r hold hv ws rd hu us ud kv ks i k1 (k2 + 1) (((W.setCell ⟨g, k2 * 3, none⟩ (.int .i64 0)).setCell ⟨g, k2 * 3 + 1, none⟩ (.int .i64 0)).setCell ⟨g, k2 * 3 + 2, none⟩ (.int .i64 (2000 + (i : Int)))) := by
  have hm := List.mem_of_getElem? he
  have hx := h.os.ent e hm
  have kk : Kp (fun x => x = g) W (((W.setCell ⟨g, k2 * 3, none⟩ (.int .i64 0)).setCell ⟨g, k2 * 3 + 1, none⟩ (.int .i64 0)).setCell ⟨g, k2 * 3 + 2, none⟩ (.int .i64 (2000 + (i : Int)))) := ((Kp.set (N := fun x => x = g) _ _ _ rfl).trans (Kp.set (N := fun x => x = g) _ _ _ rfl) (fun i e => .inl e)).trans (Kp.set (N := fun x => x = g) _ _ _ rfl) (fun i e => .inl e)
  refine ⟨h.os.wr kk (((SS.set _ _ _ _).trans (SS.set _ _ _ _)).trans (SS.set _ _ _ _)) (fun x q => .inl ⟨e, hm, .inr (by rw [q]; exact hg)⟩), fun j f hj hf => ?_, fun f hf => ?_, fun f hf => ?_⟩
  · have hmf := List.mem_of_getElem? hf
    exact ⟨(h.dn j f hj hf).1.kp kk (fun g' hg' q => by subst q; exact (h.os.ent f hmf).ne hx hg' hg), (h.dn j f hj hf).2.kp kk (fun g' hg' q => by subst q; exact (h.os.apart hf he (by omega)).2 _ hg' hg)⟩
  · rw [he] at hf
    cases hf
    exact (h.c1 e he).kp kk (fun g' hg' q => by subst q; exact hx.ne hx hg' hg)
  · rw [he] at hf
    cases hf
    exact Fil.put3 hx.g hg hk (h.c2 e he)
/-- all are written over -/
structure PC (w : World) (A B K : Nat → Prop) (b r : Nat) (hold : Int) (hv : List (Int × Int)) (ws rd : List Opn) (hu : List (Int × Int)) (us ud : List Opn) (kv : Value) (ks : List (Opn × Value × Value)) (W : World) : Prop where
  os : OS w A B K b r hold hv ws rd hu us ud kv ks W
  dn : ∀ j e, ks[j]? = some e → Fil 2 W e.2.1 e.1.deps.length (dC j) ∧ Fil 3 W e.2.2 e.1.gone.length (gC j)
theorem PB.pc {i k1 k2 : Nat} (h : PB w A B K b r hold hv ws rd hu us ud kv ks i k1 k2 W) (hi : ks.length ≤ i) : PC w A B K b r hold hv ws rd hu us ud kv ks W := ⟨h.os, fun j e he => h.dn j e (by have := (List.getElem?_eq_some_iff.1 he).1; omega) he⟩
theorem PC.below (h : PC w A B K b r hold hv ws rd hu us ud kv ks W) (hb : Below W.heap.size W W') : PC w A B K b r hold hv ws rd hu us ud kv ks W' := ⟨h.os.below hb, fun j e he => ⟨(h.dn j e he).1.kp (N := fun _ => False) (Kp.of_below hb) (fun _ _ e => e), (h.dn j e he).2.kp (N := fun _ => False) (Kp.of_below hb) (fun _ _ e => e)⟩⟩
/-- they are gone on from: what is in them stays -/
structure SC (ks : List (Opn × Value × Value)) (W0 W : World) : Prop where
  k : Kp (KB ks) W0 W
  s : SS W0 W
  cd : ∀ e ∈ ks, ∀ g q x, e.2.1.ownBlock = some g → q < e.1.deps.length * 2 → W0.cell? ⟨g, q, none⟩ = some x → W.cell? ⟨g, q, none⟩ = some x
  cg : ∀ e ∈ ks, ∀ g q x, e.2.2.ownBlock = some g → q < e.1.gone.length * 3 → W0.cell? ⟨g, q, none⟩ = some x → W.cell? ⟨g, q, none⟩ = some x
theorem SC.refl (ks : List (Opn × Value × Value)) (W : World) : SC ks W W := ⟨Kp.refl _ _, SS.refl _, fun e he g q x _ _ h => h, fun e he g q x _ _ h => h⟩
theorem PC.sc (h : PC w A B K b r hold hv ws rd hu us ud kv ks W) (s : SC ks W W') : PC w A B K b r hold hv ws rd hu us ud kv ks W' := by
  refine ⟨h.os.wr s.k s.s (fun i e => .inl e), fun j e he => ⟨fun g q i x hg hq hi => ?_, fun g q i x hg hq hi => ?_⟩⟩
  · have hm := List.mem_of_getElem? he
    have : i < 2 := (List.getElem?_eq_some_iff.1 hi).1
    exact s.cd e hm g _ x hg (by omega) ((h.dn j e he).1 g q i x hg hq hi)
  · have hm := List.mem_of_getElem? he
    have : i < 3 := (List.getElem?_eq_some_iff.1 hi).1
    exact s.cg e hm g _ x hg (by omega) ((h.dn j e he).2 g q i x hg hq hi)
/-- a step by which a row of the one kind is gone on from -/
theorem SC.go1 {W0 : World} {e : Opn × Value × Value} (o : OS w A B K b r hold hv ws rd hu us ud kv ks W0) (h : SC ks W0 W) (he : e ∈ ks) (k : Kp (fun i => e.2.1.ownBlock = some i ∨ W0.heap.size ≤ i) W W') (s : SS W W') (hc : ∀ g q x, e.2.1.ownBlock = some g → q < e.1.deps.length * 2 → W.cell? ⟨g, q, none⟩ = some x → W'.cell? ⟨g, q, none⟩ = some x) : SC ks W0 W' := by
  refine ⟨h.k.trans k (fun i q => q.imp (fun q => ⟨e, he, .inl q⟩) id), h.s.trans s, fun f hf g q x hg hq hx => ?_, fun f hf g q x hg hq hx => ?_⟩
  · have h1 := h.cd f hf g q x hg hq hx
    by_cases q1 : e.2.1.ownBlock = some g
    · have := o.uniq1 he hf q1 hg
      subst this
      exact hc g q x hg hq h1
    · refine cell_kpE h1 k (fun q2 => q2.elim q1 (fun q3 => ?_))
      have := World.block_lt_of_cell? W0 ⟨g, q, none⟩ hx
      simp at this
      omega
  · have h1 := h.cg f hf g q x hg hq hx
    refine cell_kpE h1 k (fun q2 => q2.elim (fun q1 => (o.ent e he).ne (o.ent f hf) q1 hg) (fun q3 => ?_))
    have := World.block_lt_of_cell? W0 ⟨g, q, none⟩ hx
    simp at this
    omega
theorem SC.go2 {W0 : World} {e : Opn × Value × Value} (o : OS w A B K b r hold hv ws rd hu us ud kv ks W0) (h : SC ks W0 W) (he : e ∈ ks) (k : Kp (fun i => e.2.2.ownBlock = some i ∨ W0.heap.size ≤ i) W W') (s : SS W W') (hc : ∀ g q x, e.2.2.ownBlock = some g → q < e.1.gone.length * 3 → W.cell? ⟨g, q, none⟩ = some x → W'.cell? ⟨g, q, none⟩ = some x) : SC ks W0 W' := by
  refine ⟨h.k.trans k (fun i q => q.imp (fun q => ⟨e, he, .inr q⟩) id), h.s.trans s, fun f hf g q x hg hq hx => ?_, fun f hf g q x hg hq hx => ?_⟩
  · have h1 := h.cd f hf g q x hg hq hx
    refine cell_kpE h1 k (fun q2 => q2.elim (fun q1 => (o.ent f hf).ne (o.ent e he) hg q1) (fun q3 => ?_))
    have := World.block_lt_of_cell? W0 ⟨g, q, none⟩ hx
    simp at this
    omega
  · have h1 := h.cg f hf g q x hg hq hx
    by_cases q1 : e.2.2.ownBlock = some g
    · have := o.uniq2 he hf q1 hg
      subst this
      exact hc g q x hg hq h1
    · refine cell_kpE h1 k (fun q2 => q2.elim q1 (fun q3 => ?_))
      have := World.block_lt_of_cell? W0 ⟨g, q, none⟩ hx
      simp at this
      omega
theorem SC.below {W0 : World} (h : SC ks W0 W) (hb : Below W.heap.size W W') : SC ks W0 W' := by
  have kz := h.k.size
  exact ⟨h.k.trans (Kp.of_below (N := fun _ => False) hb) (fun i e => e.elim), h.s.trans (SS.below hb), fun e he g q x hg hq hx => cell_below (h.cd e he g q x hg hq hx) hb, fun e he g q x hg hq hx => cell_below (h.cg e he g q x hg hq hx) hb⟩

end Go.Proofs.YtkkolefionbbcaaGreat

/-
  Two queues from step to step; how they begin; rows in new memory.
-/
set_option linter.unusedSimpArgs false
set_option linter.unusedVariables false
namespace Go.Proofs.YtkkolefionbbcaaGreat
open Go.RowKit Go.Lib

variable {w W W' : World} {A B K N P : Nat → Prop} {b r : Nat} {hold : Int} {hv hu : List (Int × Int)} {ws rd us ud : List Opn} {kv : Value} {ks : List (Opn × Value × Value)}
/-- only what is new since M was written, and each block is of its size -/
def GO (M : Nat) (W W' : World) : Prop := Kp (fun i => M ≤ i) W W' ∧ SS W W'
theorem GO.refl (M : Nat) (W : World) : GO M W W := ⟨Kp.refl _ _, SS.refl _⟩
theorem GO.set2 {M : Nat} {W W' : World} (h : GO M W W') {g : Nat} (hg : M ≤ g) (p q : Nat) (x y : Value) : GO M W ((W'.setCell ⟨g, p, none⟩ x).setCell ⟨g, q, none⟩ y) :=
  ⟨(h.1.trans (Kp.set (N := fun k => M ≤ k) _ _ _ hg) (fun i e => .inl e)).trans (Kp.set (N := fun k => M ≤ k) _ _ _ hg) (fun i e => .inl e), (h.2.trans (SS.set _ _ _ _)).trans (SS.set _ _ _ _)⟩
theorem GO.below {M : Nat} {W W' W'' : World} (h : GO M W W') (hb : Below W'.heap.size W' W'') : GO M W W'' := ⟨h.1.trans (Kp.of_below (N := fun k => M ≤ k) hb) (fun i e => .inl e), h.2.trans (SS.below hb)⟩
theorem GO.go {M : Nat} {W W' W'' : World} {N : Nat → Prop} (h : GO M W W') (k : Kp N W' W'') (s : SS W' W'') (hn : ∀ i, N i → M ≤ i) : GO M W W'' := ⟨h.1.trans k (fun i e => .inl (hn i e)), h.2.trans s⟩
/-- both queues say the same, but for what is ready -/
def OX (w : World) (b r : Nat) (hold : Int) (hv : List (Int × Int)) (ws rd ud : List Opn) (kv : Value) (ks : List (Opn × Value × Value)) (W : World) : Prop := ∃ A B K, OS w A B K b r hold hv ws rd hv ws ud kv ks W
theorem OX.below (h : OX w b r hold hv ws rd ud kv ks W) (hb : Below W.heap.size W W') : OX w b r hold hv ws rd ud kv ks W' := by
  obtain ⟨A, B, K, h⟩ := h
  exact ⟨A, B, K, h.below hb⟩
theorem OX.bel (h : OX w b r hold hv ws rd ud kv ks W) : Below w.heap.size w W := by
  obtain ⟨A, B, K, h⟩ := h
  exact h.bel
/-- what holds behind i steps -/
def O2 (hold : Int) (hv : List (Int × Int)) (ws rd : List Opn) (n i : Nat) : Prop := DI hold hv ws rd 900 ∧ n + (ws.length + rd.length) ≤ i
theorem O2.off {n i : Nat} (h : O2 hold hv ws rd n i) (hi : i ≤ 800) (o : Opn) : O2 hold (offA hold hv ws rd o).2.1 (offA hold hv ws rd o).2.2.1 (offA hold hv ws rd o).2.2.2 n (i + 1) := by
  have h1 : DI hold hv ws rd (ws.length + rd.length) := ⟨h.1.ck, h.1.len, h.1.dd, Nat.le_refl _⟩
  have h2 := h1.off o
  have := h.2
  have := h2.tot
  exact ⟨h2.more (by omega), by omega⟩
theorem O2.take {n i : Nat} (h : O2 hold hv ws rd n i) : O2 hold hv ws rd.tail n i := by
  cases rd with
  | nil => exact h
  | cons o rd => exact ⟨h.1.take, by have := h.2; rw [List.length_cons] at this; show n + (ws.length + rd.length) ≤ i; omega⟩
theorem O2.push {n i : Nat} (h : O2 hold hv ws rd n i) (hr : isP rd = true) : O2 hold hv ws rd.tail (n + 1) i := by
  cases rd with
  | nil => simp [isP] at hr
  | cons o rd => exact ⟨h.1.take, by have := h.2; rw [List.length_cons] at this; show n + 1 + (ws.length + rd.length) ≤ i; omega⟩
theorem O2.start (h : 0 ≤ hold) : O2 hold [] [] [] 0 0 := ⟨(DI.start h rfl).more (by omega), by simp⟩
theorem OX.start {X Y Z : World} (hq : QP (fun i => X.heap.size ≤ i) Y b hold [] [] []) (hp : QP (fun i => Y.heap.size ≤ i) Z r hold [] [] []) (h0 : Below w.heap.size w X) (h1 : Below X.heap.size X Y) (h2 : Below Y.heap.size Y Z) : OX w b r hold [] [] [] [] (.slice none 0 0) [] Z := by
  have z0 := h0.size
  have z1 := h1.size
  have z2 := h2.size
  refine ⟨fun i => X.heap.size ≤ i ∧ i < Y.heap.size, fun i => Y.heap.size ≤ i ∧ i < Z.heap.size, fun _ => False, hq.tight.kp (N := fun _ => False) (Kp.of_below h2) (fun _ e => e.elim), hp.tight, World.ownsRow_nil _ _ _ _, fun e he => (by cases he), List.Pairwise.nil, fun k hk => (by cases hk), fun i hi => ?_, fun i hi => ⟨fun e => ?_, fun e => e⟩, fun i hi e => e, fun i hi => ?_, bnext h0 (bnext h1 h2)⟩
  · obtain ⟨e, he, _⟩ := hi; cases he
  · have := e.1; have := hi.2; omega
  · rcases hi with e | e | e
    · exact ⟨by omega, by omega⟩
    · exact ⟨by omega, by omega⟩
    · exact e.elim

end Go.Proofs.YtkkolefionbbcaaGreat

/-
  A row of what was kept is gone on from, twice two: what is in all of them stays.
-/
set_option linter.unusedSimpArgs false
set_option linter.unusedVariables false
namespace Go.Proofs.YtkkolefionbbcaaGreat
open Go.RowKit Go.Lib

variable {w W W' : World} {A B K N P : Nat → Prop} {b r : Nat} {hold : Int} {hv hu : List (Int × Int)} {ws rd us ud : List Opn} {kv : Value} {ks : List (Opn × Value × Value)}
/-- two appends, two stores behind them -/
theorem PC.more (h : PC w A B K b r hold hv ws rd hu us ud kv ks W) {o : Opn} {ae af : Option Addr} {M1 ce M2 cf : Nat} (hm : (o, Value.slice ae M1 ce, Value.slice af M2 cf) ∈ ks) (hM1 : o.deps.length = M1) (hM2 : o.gone.length = M2) (m1 : M1 ≤ 1000000) (m2 : M2 ≤ 1000000) (x y : Int) :
    ∃ (ga ca gb cb Q1 Q2 N1 N2 : Nat) (Ya Yb : World) (uA uB : Value),
      (Builtin.append_ #[23, 23] 23 #[.slice ae M1 ce, .slice (some ⟨W.heap.size, 0, none⟩) 2 2]).run Tryz.prog (W.alloc (.cells #[.int .i64 x, .int .i64 0, .int .i64 x, .int .i64 0] 28)) = .ok (.slice (some ⟨ga, 0, none⟩) N1 ca) Ya ∧
      OS w A B K b r hold hv ws rd hu us ud kv ks Ya ∧
      (Builtin.append_ #[40, 40] 40 #[.slice af M2 cf, .slice (some ⟨Ya.heap.size, 0, none⟩) 2 2]).run Tryz.prog (Ya.alloc (.cells #[.int .i64 0, .int .i64 0, .int .i64 x, .int .i64 0, .int .i64 0, .int .i64 x] 72)) = .ok (.slice (some ⟨gb, 0, none⟩) N2 cb) Yb ∧
      (N1 : Int) - 1 = (Q1 : Int) ∧ (N2 : Int) - 1 = (Q2 : Int) ∧ N1 ≤ 1000002 ∧ N2 ≤ 1000002 ∧ Q1 < N1 ∧ Q2 < N2 ∧
      ga < Yb.heap.size ∧ Yb.cell? ⟨ga, Q1 * 2 + 1, none⟩ = some uA ∧ Yb.frozen? ⟨ga, Q1 * 2 + 1, none⟩ = false ∧
      gb < (Yb.setCell ⟨ga, Q1 * 2 + 1, none⟩ (.int .i64 y)).heap.size ∧ (Yb.setCell ⟨ga, Q1 * 2 + 1, none⟩ (.int .i64 y)).cell? ⟨gb, Q2 * 3, none⟩ = some uB ∧ (Yb.setCell ⟨ga, Q1 * 2 + 1, none⟩ (.int .i64 y)).frozen? ⟨gb, Q2 * 3, none⟩ = false ∧
      PC w A B K b r hold hv ws rd hu us ud kv ks ((Yb.setCell ⟨ga, Q1 * 2 + 1, none⟩ (.int .i64 y)).setCell ⟨gb, Q2 * 3, none⟩ (.int .i64 y)) := by
  have hos := h.os
  have hent := hos.ent _ hm
  have hd' := hent.d
  have hg' := hent.g
  simp only [hM1] at hd'
  simp only [hM2] at hg'
  obtain ⟨Xa, hXa⟩ : ∃ X, W.alloc (.cells #[.int .i64 x, .int .i64 0, .int .i64 x, .int .i64 0] 28) = X := ⟨_, rfl⟩
  have bXa : Below W.heap.size W Xa := by rw [← hXa]; exact ballc (Below.refl _ _) _
  have xXa : Bx Xa W.heap.size 28 #[.int .i64 x, .int .i64 0, .int .i64 x, .int .i64 0] := by rw [← hXa]; exact Bx.new _ _ _
  obtain ⟨ga, ca, Ya, ra, oa, sa, ka, wa, la⟩ := app_y 23 28 2 16 _ Tryz.underlying23 infoD rfl (by decide) Xa 23 ae M1 ce 2 (hd'.ss (SS.below bXa)) W.heap.size [.int .i64 x, .int .i64 0, .int .i64 x, .int .i64 0] xXa rfl (by decide) (by simp [Value.oneCell']) (by omega) (by decide) (by omega)
  have sc0 := (SC.refl ks W).below bXa
  have zXa := bXa.size
  have sc1 := SC.go1 hos sc0 hm (ka.wk (fun i e => .inl e)) sa (fun g q x hg hq hx => la g q x hg (by simpa only [hM1] using hq) hx)
  obtain ⟨Xb, hXb⟩ : ∃ X, Ya.alloc (.cells #[.int .i64 0, .int .i64 0, .int .i64 x, .int .i64 0, .int .i64 0, .int .i64 x] 72) = X := ⟨_, rfl⟩
  have bXb : Below Ya.heap.size Ya Xb := by rw [← hXb]; exact ballc (Below.refl _ _) _
  have xXb : Bx Xb Ya.heap.size 72 #[.int .i64 0, .int .i64 0, .int .i64 x, .int .i64 0, .int .i64 0, .int .i64 x] := by rw [← hXb]; exact Bx.new _ _ _
  obtain ⟨gb, cb, Yb, rb, ob, sb, kb, wb, lb⟩ := app_y 40 72 3 24 _ Tryz.underlying40 infoRu rfl (by decide) Xb 40 af M2 cf 2 ((hg'.ss sc1.s).ss (SS.below bXb)) Ya.heap.size [.int .i64 0, .int .i64 0, .int .i64 x, .int .i64 0, .int .i64 0, .int .i64 x] xXb rfl (by decide) (by simp [Value.oneCell']) (by omega) (by decide) (by omega)
  have sc2 := SC.go2 hos (sc1.below bXb) hm (kb.wk (fun i e => .inl e)) sb (fun g q x hg hq hx => lb g q x hg (by simpa only [hM2] using hq) hx)
  have zYa := ka.size
  have zXb := bXb.size
  have oaB := (oa.ss (SS.below bXb)).ss sb
  have gaB : (Value.slice ae M1 ce).ownBlock = some ga ∨ W.heap.size ≤ ga := wa.imp id (fun q => by omega)
  have gbB : (Value.slice af M2 cf).ownBlock = some gb ∨ W.heap.size ≤ gb := wb.imp id (fun q => by omega)
  obtain ⟨g1, e1, lA, fA, cA, bA⟩ := oaB.at (by omega)
  simp only [Option.some.injEq, Addr.mk.injEq, and_true] at e1
  subst e1
  obtain ⟨uA, dA⟩ := cA ((M1 + 1) * 2 + 1) (by omega)
  have kZ1 : Kp (fun x => x = ga) Yb (Yb.setCell ⟨ga, (M1 + 1) * 2 + 1, none⟩ (.int .i64 y)) := Kp.set _ _ _ rfl
  have sZ1 : SS Yb (Yb.setCell ⟨ga, (M1 + 1) * 2 + 1, none⟩ (.int .i64 y)) := SS.set _ _ _ _
  have sc3 := SC.go1 hos sc2 hm (kZ1.wk (fun x e => by rw [e]; exact gaB)) sZ1 (fun g q x hg hq hx => by
    simp only [hM1] at hq
    by_cases e : g = ga
    · subst e
      exact cell_setE _ bA hx (by omega)
    · exact cell_kpE hx kZ1 e)
  have obB := ob.ss sZ1
  obtain ⟨g2, e2, lB, fB, cB, bB⟩ := obB.at (by omega)
  simp only [Option.some.injEq, Addr.mk.injEq, and_true] at e2
  subst e2
  obtain ⟨uB, dB⟩ := cB ((M2 + 1) * 3) (by omega)
  have kZ2 : Kp (fun x => x = gb) (Yb.setCell ⟨ga, (M1 + 1) * 2 + 1, none⟩ (.int .i64 y)) ((Yb.setCell ⟨ga, (M1 + 1) * 2 + 1, none⟩ (.int .i64 y)).setCell ⟨gb, (M2 + 1) * 3, none⟩ (.int .i64 y)) := Kp.set _ _ _ rfl
  have sZ2 : SS (Yb.setCell ⟨ga, (M1 + 1) * 2 + 1, none⟩ (.int .i64 y)) ((Yb.setCell ⟨ga, (M1 + 1) * 2 + 1, none⟩ (.int .i64 y)).setCell ⟨gb, (M2 + 1) * 3, none⟩ (.int .i64 y)) := SS.set _ _ _ _
  have sc4 := SC.go2 hos sc3 hm (kZ2.wk (fun x e => by rw [e]; exact gbB)) sZ2 (fun g q x hg hq hx => by
    simp only [hM2] at hq
    by_cases e : g = gb
    · subst e
      exact cell_setE _ bB hx (by omega)
    · exact cell_kpE hx kZ2 e)
  exact ⟨ga, ca, gb, cb, M1 + 1, M2 + 1, M1 + 2, M2 + 2, Ya, Yb, uA, uB, by rw [hXa]; exact ra, (h.sc sc1).os, by rw [hXb]; exact rb, by omega, by omega, by omega, by omega, by omega, by omega, lA, dA, fA _, lB, dB, fB _, h.sc sc4⟩

end Go.Proofs.YtkkolefionbbcaaGreat
