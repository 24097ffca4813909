/-
  Two Nets side by side; what was told, written over and gone on from.
-/
import Derived.Test.YtfminifjnjfocabZNY
import Derived.ArgAppend
import Derived.Laws.OwnMore
set_option linter.unusedSimpArgs false
set_option linter.unusedVariables false
namespace Go.Proofs.Ytfminifjnjfocab
open Go.RowKit Go.Lib

variable {P N S S' T T' : Nat → Prop} {w W W' V V' Y : World} {b p f m B q ba bb : Nat} {c : Cp} {s s' : Stn} {v u : Value} {L : List (Cp × Value)} {e : Ending}
/-- append: the old row stays -/
theorem app_keep (TS E : TypeId) (k bytes : Nat) (z : Value) (ht : Try.prog.underlying TS = some (.slice E)) (hinf : (Try.prog.info? E).map (fun i => (i.zero, i.size, i.bytes)) = some (some z, k, bytes)) (hzs : z.cells.size = k) (k0 : 0 < k)
    (W : World) (ty : TypeId) (B : Nat) (a : Option Addr) (n c m : Nat) (C : List Value) (h : W.ownsRow B E k (.slice a n c) n C) (hB : B ≤ W.heap.size) (nb : Nat) (vs : List Value) (hbx : Bx W nb E vs.toArray) (hl : vs.length = m * k) (m0 : 0 < m) (h1 : ∀ u ∈ vs, u.oneCell' = true) (hn : n ≤ 2147483647) (hm : m ≤ 10) (hby : (n + m) * bytes ≤ 140737488355328) :
    ∃ a' c' W', (Builtin.append_ #[TS, TS] ty #[.slice a n c, .slice (some ⟨nb, 0, none⟩) m m]).run Try.prog W = .ok (.slice a' (n + m) c') W' ∧ W'.ownsRow B E k (.slice a' (n + m) c') (n + m) (C ++ vs) ∧ W'.ownsRow B E k (.slice a n c) n C ∧ Kp (fun i => (Value.slice a n c).ownBlock = some i) W W' ∧ (∀ i, (Value.slice a' (n + m) c').ownBlock = some i → (Value.slice a n c).ownBlock = some i ∨ W.heap.size ≤ i) := by
  obtain ⟨i0, hi, hz0, hz1, hz2⟩ := info_parts hinf
  have hcn : ∀ j u, vs[j]? = some u → W.cell? ((⟨nb, 0, none⟩ : Addr).add j) = some u := fun j u hu => by
    rw [Addr.add_lit, Nat.zero_add]
    exact hbx.cell j u (by rw [← hu]; simp)
  obtain ⟨v', W', q1, q2, q3, q4, q5⟩ := run_append_own_at (P := Try.prog) W B TS ty E i0 z k bytes ht hi hz0 hz1 hz2 hzs k0 _ n C h ⟨nb, 0, none⟩ m m vs hl hcn h1 (by unfold maxLen; omega) hby hB
  obtain ⟨a', c', e⟩ := owns_form q2
  subst e
  have hC := h.1
  refine ⟨a', c', W', q1, q2, ?_, Kp.of_grown q3 (fun i e => e), fun i hi => ?_⟩
  · rcases h.2 with ⟨he, he2⟩ | ⟨g, cap, cur, he, hb, hg, hc1, hc2, hc3, hc4⟩
    · exact ⟨hC, .inl ⟨he, he2⟩⟩
    · simp only [Value.slice.injEq] at he
      obtain ⟨rfl, _, rfl⟩ := he
      by_cases hf : n + m ≤ c
      · obtain ⟨W2, r1, r2, r3⟩ := run_append_fits (P := Try.prog) W B TS ty E i0 k ht hi hz1 g n c C h ⟨nb, 0, none⟩ m m vs hl hcn h1 hf
        rw [q1] at r1
        simp only [Result.ok.injEq] at r1
        obtain ⟨_, rfl⟩ := r1
        rcases r2.2 with ⟨e, _⟩ | ⟨g', cap', cur', e, hb', hg', hd1, hd2, hd3, hd4⟩
        · cases e
        · simp only [Value.slice.injEq, Option.some.injEq, Addr.mk.injEq, and_true] at e
          obtain ⟨rfl, _, rfl⟩ := e
          refine ⟨hC, .inr ⟨g, c, cur', rfl, hb', hg', hc1, hd2, hd3, ?_⟩⟩
          have hlt : n * k ≤ (n + m) * k := Nat.mul_le_mul_right _ (by omega)
          have e2 := congrArg (List.take (n * k)) hd4
          rw [List.take_take, Nat.min_eq_left hlt, List.take_append_of_le_length (by omega), List.take_of_length_le (l := C) (by omega)] at e2
          exact e2
      · obtain ⟨v2, W2, r1, r2, r3⟩ := run_append_arg_grows (P := Try.prog) W TS ty E i0 z k bytes ht hi hz0 hz1 hz2 hzs k0 ⟨g, 0, none⟩ n c C hC (fun j u hj => by
          rw [Addr.add_lit, Nat.zero_add]
          have hjl := (List.getElem?_eq_some_iff.1 hj).1
          exact (h.cellAt j (by omega)).trans hj) ⟨nb, 0, none⟩ m m vs hl hcn (by omega) (by unfold maxLen; omega) hby
        rw [q1] at r1
        simp only [Result.ok.injEq] at r1
        obtain ⟨_, rfl⟩ := r1
        exact ⟨hC, .inr ⟨g, c, cur, rfl, hb, (r3.block g (Array.getElem?_eq_some_iff.1 hg).1 (by simp)).trans hg, hc1, hc2, hc3, hc4⟩⟩
  · rcases q5 with e | e
    · exact .inl (by rw [← e]; exact hi)
    · rw [e] at hi; cases hi; exact .inr (Nat.le_refl _)
/-- two Nets that say the same, apart from each other -/
structure TN (w : World) (S T : Nat → Prop) (W : World) (ba bb : Nat) (s : Stn) (t : Stn) : Prop where
  a : KN w S W ba s
  b : KN w T W bb t
  ds : ∀ i, S i → ¬ T i
theorem TN.below {t : Stn} (h : TN w S T W ba bb s t) (hb : Below W.heap.size W W') : TN w S T W' ba bb s t := ⟨h.a.below hb, h.b.below hb, h.ds⟩
theorem TN.swap {t : Stn} (h : TN w S T W ba bb s t) : TN w T S W bb ba t s := ⟨h.b, h.a, fun i hi e => h.ds i e hi⟩
theorem TN.call {t : Stn} (h : TN w S T W ba bb s t) (hc : CN S W ba s' u e W') : e = .returned u ∧ ∃ S', TN w S' T W' ba bb s' t := by
  obtain ⟨h1, S', k, d⟩ := h.a.call hc
  refine ⟨h1, S', k, ⟨h.b.nl.kp d.kp (fun i hi e => h.ds i hi e), fun i hi => ⟨(h.b.lo i hi).1, by have := (h.b.lo i hi).2; have := d.kp.size; omega⟩, k.bel⟩, fun i hi e => ?_⟩
  rcases d.gr i hi with q | q
  · exact h.ds i q e
  · have := (h.b.lo i e).2; omega
/-- memory that is neither's is written -/
theorem TN.kp {t : Stn} (h : TN w S T W ba bb s t) (k : Kp N W W') (hn : ∀ i, N i → ¬ S i ∧ ¬ T i ∧ w.heap.size ≤ i) : TN w S T W' ba bb s t := by
  have hz := k.size
  exact ⟨⟨h.a.nl.kp k (fun i hi => (hn i hi).1), fun i hi => ⟨(h.a.lo i hi).1, by have := (h.a.lo i hi).2; omega⟩, k.below h.a.bel (fun i hi => (hn i hi).2.2)⟩, ⟨h.b.nl.kp k (fun i hi => (hn i hi).2.1), fun i hi => ⟨(h.b.lo i hi).1, by have := (h.b.lo i hi).2; omega⟩, k.below h.b.bel (fun i hi => (hn i hi).2.2)⟩, h.ds⟩
/-- what was told, with other bytes by now -/
structure OL (W : World) (B : Nat) (v : Value) (L : List (Cp × Value)) (D : Nat → List Int) : Prop where
  row : W.ownsRow B 34 6 v L.length (flat encC L)
  dat : ∀ (i : Nat) (x : Cp × Value), L[i]? = some x → OwB W B 5 x.2 (D i)
  apt : ∀ (i j : Nat) (x y : Cp × Value), L[i]? = some x → L[j]? = some y → i ≠ j → ∀ q, x.2.ownBlock = some q → y.2.ownBlock ≠ some q
theorem OL.of (h : CL W B v L) : OL W B v L (fun i => ((L[i]?).map fun x => x.1.dat).getD []) := by
  refine ⟨h.row, fun i x hx => ?_, fun i j x y hx hy hne q h1 h2 => ?_⟩
  · have := h.dat x (List.mem_of_getElem? hx)
    simpa [hx] using this
  · obtain ⟨hi, rfl⟩ := List.getElem?_eq_some_iff.1 hx
    obtain ⟨hj, rfl⟩ := List.getElem?_eq_some_iff.1 hy
    rcases Nat.lt_or_gt_of_ne hne with hlt | hlt
    · exact List.pairwise_iff_getElem.1 h.apt i j hi hj hlt q h1 h2
    · exact List.pairwise_iff_getElem.1 h.apt j i hj hi hlt q h2 h1
theorem OL.kp {D : Nat → List Int} (h : OL W B v L D) (k : Kp N W W') (hn : ∀ i, N i → ∀ q, (v.ownBlock = some q ∨ ∃ y ∈ L, y.2.ownBlock = some q) → i ≠ q) : OL W' B v L D := ⟨owns_kp h.row k (fun i hi e => hn i e i (.inl hi) rfl), fun i x hx => (h.dat i x hx).kp k (fun q hq e => hn q e q (.inr ⟨x, List.mem_of_getElem? hx, hq⟩) rfl), h.apt⟩
theorem OL.below {D : Nat → List Int} (h : OL W B v L D) (hb : Below W.heap.size W W') : OL W' B v L D := h.kp (N := fun _ => False) (Kp.of_below hb) (fun _ e => e.elim)
theorem flat_set3 : ∀ (L : List (Cp × Value)) (i : Nat) (x : Cp × Value), L[i]? = some x → ∀ u : Value, (flat encC L).set (i * 6 + 3) u = flat encC (L.set i (x.1, u))
  | [], i, x, h, u => by simp at h
  | y :: L, 0, x, h, u => by
    simp at h
    subst h
    rfl
  | y :: L, i + 1, x, h, u => by
    rw [List.set_cons_succ, flat_cons, flat_cons, ← flat_set3 L i x (by simpa using h) u]
    rw [List.set_append_right _ _ (by rw [encC_len]; omega), encC_len]
    congr 2
    omega
theorem OL.at {D : Nat → List Int} {a : Option Addr} {n k i : Nat} (h : OL W B (.slice a n k) L D) {x : Cp × Value} (hi : L[i]? = some x) : ∃ g, a = some ⟨g, 0, none⟩ ∧ W.cell? ⟨g, i * 6 + 3, none⟩ = some x.2 ∧ W.frozen? ⟨g, i * 6 + 3, none⟩ = false ∧ B ≤ g ∧ n = L.length := by
  have hl := (List.getElem?_eq_some_iff.1 hi).1
  have hr := h.row
  rcases hr.2 with ⟨e, h0⟩ | ⟨g, cap, cur, e, hb, hg, _⟩
  · omega
  · simp only [Value.slice.injEq] at e
    obtain ⟨rfl, rfl, rfl⟩ := e
    refine ⟨g, rfl, ?_, Bx.frozen (t := 34) (vs := cur) hg _, hb, rfl⟩
    have hlt : i * 6 + 3 < L.length * 6 := by omega
    rw [hr.cellAt (i * 6 + 3) hlt, flat_get encC_len L i 3 x hi (by omega)]
    rfl
def updD (D : Nat → List Int) (i : Nat) (l : List Int) : Nat → List Int := fun j => if j = i then l else D j
/-- x[i].Data[j] = c -/
theorem OL.put {D : Nat → List Int} {i j : Nat} (h : OL W B v L D) {x : Cp × Value} (hi : L[i]? = some x) (hj : j < (D i).length) (c : Int) : ∃ g k u, x.2 = .slice (some ⟨g, 0, none⟩) (D i).length k ∧ W.cell? ⟨g, j, none⟩ = some u ∧ W.frozen? ⟨g, j, none⟩ = false ∧ B ≤ g ∧ OL (W.setCell ⟨g, j, none⟩ (.int .u8 c)) B v L (updD D i ((D i).set j c)) ∧ Kp (fun q => q = g) W (W.setCell ⟨g, j, none⟩ (.int .u8 c)) := by
  have ho := h.dat i x hi
  obtain ⟨h0, (⟨e, e2⟩ | ⟨g, cap, cur, e, hb, hg, hc1, hc2, hc3, hc4⟩)⟩ := ho
  · omega
  · rw [Nat.mul_one] at hc3 hc4
    have hbx : Bx W g 5 cur := hg
    have kY : Kp (fun q => q = g) W (W.setCell ⟨g, j, none⟩ (.int .u8 c)) := Kp.set _ ⟨g, j, none⟩ _ rfl
    have hlt : j < cur.size := by omega
    refine ⟨g, cap, cur[j], e, hbx.cell j _ (Array.getElem?_eq_getElem hlt), hbx.frozen j, hb, ⟨owns_kp h.row kY (fun q hq eq => ?_), fun i' x' hx' => ?_, h.apt⟩, kY⟩
    · rcases h.row.2 with ⟨e3, _⟩ | ⟨g3, cap3, cur3, e3, _, hg3, _⟩
      · rw [e3] at hq; cases hq
      · rw [e3] at hq
        cases hq
        have hb3 : Bx W g3 34 cur3 := hg3
        have eq' : g3 = g := eq
        rw [eq'] at hb3
        exact hb3.apart hbx (by decide) rfl
    · unfold updD
      by_cases hii : i' = i
      · subst hii
        rw [hi] at hx'
        cases hx'
        rw [if_pos rfl, e]
        refine ⟨by rw [bC_len, Nat.mul_one], .inr ⟨g, cap, _, by rw [List.length_set], hb, hbx.set j _, by rw [List.length_set]; exact hc1, hc2, by simp [hc3], ?_⟩⟩
        rw [Nat.mul_one, List.length_set, Array.toList_setIfInBounds, List.take_set, hc4]
        unfold bC
        rw [List.map_set]
      · rw [if_neg hii]
        refine (h.dat i' x' hx').kp kY (fun q hq eq => ?_)
        exact h.apt i i' x x' hi hx' (fun q => hii q.symm) g (by rw [e]; rfl) (by rw [hq, eq])
/-- x[i].Data = append(x[i].Data, 200) -/
theorem OL.go {D : Nat → List Int} {a : Option Addr} {n k i : Nat} (h : OL W B (.slice a n k) L D) (hB : B ≤ W.heap.size) {x : Cp × Value} (hi : L[i]? = some x) (hD : (D i).length ≤ 1000000) (t : Int) (ty : TypeId) {X : World} (hX : W.alloc (.cells #[.int .u8 t] 5) = X) : ∃ g a' c' Y, a = some ⟨g, 0, none⟩ ∧ (Builtin.append_ #[28, 28] ty #[x.2, .slice (some ⟨W.heap.size, 0, none⟩) 1 1]).run Try.prog X = .ok (.slice a' ((D i).length + 1) c') Y ∧ (∃ u, Y.cell? ⟨g, i * 6 + 3, none⟩ = some u) ∧ Y.frozen? ⟨g, i * 6 + 3, none⟩ = false ∧ OL (Y.setCell ⟨g, i * 6 + 3, none⟩ (.slice a' ((D i).length + 1) c')) B (.slice a n k) (L.set i (x.1, .slice a' ((D i).length + 1) c')) (updD D i (D i ++ [t])) ∧ Kp (fun q => B ≤ q) W (Y.setCell ⟨g, i * 6 + 3, none⟩ (.slice a' ((D i).length + 1) c')) := by
  have hl := (List.getElem?_eq_some_iff.1 hi).1
  have bX : Below W.heap.size W X := by rw [← hX]; exact ballc (Below.refl _ _) _
  have hbx : Bx X W.heap.size 5 #[.int .u8 t] := by rw [← hX]; exact Bx.new _ _ _
  have hX' := h.below bX
  have ho := hX'.dat i x hi
  obtain ⟨ax, cx, ex⟩ := ho.form
  have hsX := bX.size
  obtain ⟨a', c', Y, r1, r2, _, r4, r5⟩ := app_keep 28 5 1 1 (.int .u8 0) Try.underlying28 infoB rfl (by decide) X ty B ax (D i).length cx 1 (bC (D i)) (by rw [← ex]; exact ho) (by omega) W.heap.size [.int .u8 t] hbx rfl (by decide) (fun u hu => by simp at hu; subst hu; rfl) (by omega) (by decide) (by omega)
  rw [← ex] at r1 r4 r5
  obtain ⟨g, rfl, c0, f0, hbg, hn⟩ := hX'.at hi
  have ownx : ∀ q, x.2.ownBlock = some q → ∃ cur, Bx X q 5 cur := ho.ty
  have hgx : ∃ cur, Bx X g 34 cur := by
    rcases hX'.row.2 with ⟨e3, _⟩ | ⟨g3, cap3, cur3, e3, _, hg3, _⟩
    · cases e3
    · simp only [Value.slice.injEq, Option.some.injEq, Addr.mk.injEq, and_true] at e3
      rw [e3.1]
      exact ⟨cur3, hg3⟩
  obtain ⟨curg, hbxg⟩ := hgx
  have hng : ¬ x.2.ownBlock = some g := fun e => by
    obtain ⟨cur, hc⟩ := ownx g e
    exact hc.apart hbxg (by decide) rfl
  have hbY := hbxg.kp r4 hng
  have rowY : Y.ownsRow B 34 6 (.slice (some ⟨g, 0, none⟩) n k) L.length (flat encC L) := owns_kp hX'.row r4 (fun q hq e => by
    cases hq
    exact hng e)
  have hlt : i * 6 + 3 < L.length * 6 := by omega
  have hsz : i * 6 + 3 < curg.size := by
    rcases rowY.2 with ⟨e3, _⟩ | ⟨g3, cap3, cur3, e3, _, hg3, q1, q2, q3, q4⟩
    · cases e3
    · simp only [Value.slice.injEq, Option.some.injEq, Addr.mk.injEq, and_true] at e3
      obtain ⟨rfl, _, rfl⟩ := e3
      have e4 : Y.heap[g]? = some (.cells curg 34 (0, 0)) := hbY
      rw [hg3] at e4
      simp at e4
      subst e4
      omega
  have kZ : Kp (fun q => q = g) Y (Y.setCell ⟨g, i * 6 + 3, none⟩ (.slice a' ((D i).length + 1) c')) := Kp.set _ ⟨g, i * 6 + 3, none⟩ _ rfl
  have hnewb : ∀ q, (Value.slice a' ((D i).length + 1) c').ownBlock = some q → q ≠ g := fun q hq e => by
    obtain ⟨cur, hc⟩ : ∃ cur, Bx Y q 5 cur := by
      rcases r2.2 with ⟨e3, _⟩ | ⟨g3, cap3, cur3, e3, _, hg3, _⟩
      · rw [e3] at hq; cases hq
      · rw [e3] at hq; cases hq; exact ⟨cur3, hg3⟩
    rw [e] at hc
    exact hc.apart hbY (by decide) rfl
  refine ⟨g, a', c', Y, rfl, r1, ⟨_, hbY.cell _ _ (Array.getElem?_eq_getElem hsz)⟩, hbY.frozen _, ⟨?_, fun i' x' hx' => ?_, fun i1 i2 x1 x2 hx1 hx2 hne q hq1 hq2 => ?_⟩, ?_⟩
  · rw [List.length_set]
    rcases rowY with ⟨q0, (⟨e3, _⟩ | ⟨g3, cap3, cur3, e3, hb3, hg3, q1, q2, q3, q4⟩)⟩
    · cases e3
    · simp only [Value.slice.injEq, Option.some.injEq, Addr.mk.injEq, and_true] at e3
      obtain ⟨rfl, rfl, rfl⟩ := e3
      refine ⟨by rw [flat_len encC_len, List.length_set], .inr ⟨g, k, _, rfl, hb3, Bx.set (t := 34) hg3 _ _, q1, q2, by simp [q3], ?_⟩⟩
      rw [Array.toList_setIfInBounds, List.take_set, q4]
      exact flat_set3 L i x hi _
  · unfold updD
    by_cases hii : i' = i
    · subst hii
      rw [List.getElem?_set_self hl] at hx'
      cases hx'
      rw [if_pos rfl]
      unfold OwB
      rw [List.length_append, bC_app]
      exact owns_kp r2 kZ (fun q hq e => hnewb q hq e)
    · rw [List.getElem?_set_ne (fun e => hii e.symm)] at hx'
      rw [if_neg hii]
      refine ((hX'.dat i' x' hx').kp r4 (fun q hq e => ?_)).kp kZ (fun q hq e => ?_)
      · exact hX'.apt i i' x x' hi hx' (fun q => hii q.symm) q e hq
      · obtain ⟨cur, hc⟩ := (hX'.dat i' x' hx').ty q hq
        rw [e] at hc
        exact hc.apart hbxg (by decide) rfl
  · by_cases e1 : i1 = i
    · subst e1
      rw [List.getElem?_set_self hl] at hx1
      cases hx1
      rw [List.getElem?_set_ne hne] at hx2
      rcases r5 q hq1 with e | e
      · exact hX'.apt i1 i2 x x2 hi hx2 hne q e hq2
      · have := ((hX'.dat i2 x2 hx2).lt q hq2).2; omega
    · rw [List.getElem?_set_ne (fun e => e1 e.symm)] at hx1
      by_cases e2 : i2 = i
      · subst e2
        rw [List.getElem?_set_self hl] at hx2
        cases hx2
        rcases r5 q hq2 with e | e
        · exact hX'.apt i1 i2 x1 x hx1 hi e1 q hq1 e
        · have := ((hX'.dat i1 x1 hx1).lt q hq1).2; omega
      · rw [List.getElem?_set_ne (fun e => e2 e.symm)] at hx2
        exact hX'.apt i1 i2 x1 x2 hx1 hx2 hne q hq1 hq2
  · refine (((Kp.of_below bX).trans r4 (fun q hq => ?_)).wk (fun q hq => hq)).trans kZ (fun q hq => ?_)
    · exact .inl ((ho.lt q hq).1)
    · exact .inl (by rw [hq]; exact hbg)

end Go.Proofs.Ytfminifjnjfocab
