/-
  A row of one's own out of another's, with a mark behind it: append(append([]T{}, l...), m).
-/
import Derived.Test.YtkndjbmlkfpfoaaGreatDoorZTN
import Derived.Test.YtkndjbmlkfpfoaaGreatDoorZRegTToRegU

set_option linter.unusedSimpArgs false
set_option linter.unusedVariables false
namespace Go.Proofs.YtkndjbmlkfpfoaaGreatDoor
open Go.RowKit Go.Lib

/-- what append([]T{}, l...) is: the empty slice itself, or a row of one's own -/
def Ow3 (N : Nat) (E : TypeId) (n : Nat) (C : List Value) (W : World) (v : Value) : Prop := (n = 0 ∧ ∃ b, v = .slice (some ⟨b, 0, none⟩) 0 0) ∨ (0 < n ∧ W.ownsRow N E 1 v n C)
/-- the mark's row -/
def Mk4 (N : Nat) (E : TypeId) (y : Value) (W : World) (v : Value) : Prop := ∃ b, v = .slice (some ⟨b, 0, none⟩) 1 1 ∧ N ≤ b ∧ W.heap[b]? = some (.cells #[y] E (0, 0))
theorem Ow3.below {N : Nat} {E : TypeId} {n : Nat} {C : List Value} {W W' : World} {v : Value} (h : Ow3 N E n C W v) (hb : Below W.heap.size W W') : Ow3 N E n C W' v := by
  rcases h with h | ⟨h0, h1, h2⟩
  · exact .inl h
  · refine .inr ⟨h0, h1, ?_⟩
    rcases h2 with h2 | ⟨g, cap, cur, e, hbg, hg, hc⟩
    · exact .inl h2
    · have hlt := (Array.getElem?_eq_some_iff.1 hg).1
      exact .inr ⟨g, cap, cur, e, hbg, (hb.block g hlt).trans hg, hc⟩
theorem Mk4.below {N : Nat} {E : TypeId} {y : Value} {W W' : World} {v : Value} (h : Mk4 N E y W v) (hb : Below W.heap.size W W') : Mk4 N E y W' v := by
  obtain ⟨b, e, h1, h2⟩ := h
  exact ⟨b, e, h1, (hb.block b (Array.getElem?_eq_some_iff.1 h2).1).trans h2⟩

theorem first_in (TS E : TypeId) (bytes : Nat) (z : Value) (ht : Tryz.prog.underlying TS = some (.slice E)) (hinf : (Tryz.prog.info? E).map (fun i => (i.zero, i.size, i.bytes)) = some (some z, 1, bytes)) (hzs : z.cells.size = 1)
    (w : World) (N : Nat) (ty : TypeId) (x : Value) (b n : Nat) (C : List Value) (h : RC w x n C) (hC : C.length = n) (h1 : ∀ u ∈ C, u.oneCell' = true) (hN : N ≤ w.heap.size) (hn : n ≤ 1000000) (hb8 : bytes ≤ 8) :
    ∃ v' w', (Builtin.append_ #[TS, TS] ty #[.slice (some ⟨b, 0, none⟩) 0 0, x]).run Tryz.prog w = .ok v' w' ∧ Ow3 N E n C w' v' ∧ Below w.heap.size w w' := by
  obtain ⟨i0, hi, hz0, hz1, hz2⟩ := info_parts5 hinf
  have hby : n * bytes ≤ 8000000 := Nat.le_trans (Nat.mul_le_mul hn hb8) (by decide)
  rcases h with ⟨h0, a, cap, rfl⟩ | ⟨b1, off, cap, rfl, _, _, hc⟩
  · subst h0
    refine ⟨.slice (some ⟨b, 0, none⟩) 0 0, w, ?_, .inl ⟨rfl, _, rfl⟩, Below.refl _ _⟩
    cases a <;> simp [Builtin.append_, run_underlying ht, sizeOf, typeInfo, hi, Builtin.lenOf, Builtin.firstCells, storeCells, loadCells, loadCellsFrom]
  · by_cases h0 : n = 0
    · subst h0
      refine ⟨.slice (some ⟨b, 0, none⟩) 0 0, w, ?_, .inl ⟨rfl, _, rfl⟩, Below.refl _ _⟩
      simp [Builtin.append_, run_underlying ht, sizeOf, typeInfo, hi, Builtin.lenOf, Builtin.firstCells, storeCells, loadCells, loadCellsFrom]
    · have hcc : ∀ j u, C[j]? = some u → w.cell? ((⟨b1, off, none⟩ : Addr).add j) = some u := fun j u hu => by rw [Addr.add_lit]; exact hc j u hu
      have g := run_append_grow (P := Tryz.prog) w TS ty E i0 z ht hi hz0 ⟨b, 0, none⟩ 0 0 [] (by simp) (fun j v hv => by simp at hv) ⟨b1, off, none⟩ n cap C (by rw [hz1, Nat.mul_one]; exact hC) hcc (by omega) (by omega) (by rw [hz2]; exact growslice_fits (by omega) (by rw [Nat.zero_add]; omega))
      have g0 := run_append_nil (P := Tryz.prog) w TS ty E i0 z ht hi hz0 ⟨b1, off, none⟩ n cap C (by rw [hz1, Nat.mul_one]; exact hC) hcc (by omega) (by omega) (by rw [hz2]; omega)
      obtain ⟨v', w', q1, q2, q3, _⟩ := run_append_own (P := Tryz.prog) w N TS ty E i0 z 1 bytes ht hi hz0 hz1 hz2 hzs (by decide) (.slice none 0 0) 0 [] (World.ownsRow_nil _ _ _ _) ⟨b1, off, none⟩ n cap C (by rw [Nat.mul_one]; exact hC) hcc h1 (by unfold maxLen; omega) (by rw [Nat.zero_add]; omega) hN
      refine ⟨v', w', ?_, .inr ⟨by omega, by simpa using q2⟩, (Below.refl _ w).grown q3 (Nat.le_refl _) (fun k hk => by cases hk)⟩
      rw [← q1, g, g0]
      simp

theorem second_in (TS E : TypeId) (bytes : Nat) (z : Value) (ht : Tryz.prog.underlying TS = some (.slice E)) (hinf : (Tryz.prog.info? E).map (fun i => (i.zero, i.size, i.bytes)) = some (some z, 1, bytes)) (hzs : z.cells.size = 1)
    (w : World) (N : Nat) (ty : TypeId) (v x y : Value) (n : Nat) (C : List Value) (h : Ow3 N E n C w v) (hx : Mk4 N E y w x) (hC : C.length = n) (hy : y.oneCell' = true) (hN : N ≤ w.heap.size) (hn : n ≤ 1000000) (hb8 : bytes ≤ 8) :
    ∃ v' w', (Builtin.append_ #[TS, TS] ty #[v, x]).run Tryz.prog w = .ok v' w' ∧ w'.ownsRow N E 1 v' (n + 1) (C ++ [y]) ∧ Below N w w' ∧ (∀ u, Ow3 N E n C w u → Ow3 N E n C w' u) ∧ (∀ u, Mk4 N E y w u → Mk4 N E y w' u) := by
  obtain ⟨i0, hi, hz0, hz1, hz2⟩ := info_parts5 hinf
  have hby : (n + 1) * bytes ≤ 16000000 := Nat.le_trans (Nat.mul_le_mul (show n + 1 ≤ 2000000 by omega) hb8) (by decide)
  obtain ⟨b4, rfl, hb4, hh4⟩ := hx
  have hnews : ∀ j u, [y][j]? = some u → w.cell? ((⟨b4, 0, none⟩ : Addr).add j) = some u := fun j u hu => by
    rw [Addr.add_lit, Nat.zero_add]
    unfold World.cell?
    match j, hu with
    | 0, hu => simp at hu; subst hu; simp [hh4]
    | j + 1, hu => simp at hu
  have all : ∀ w', Below w.heap.size w w' → Below N w w' ∧ (∀ u, Ow3 N E n C w u → Ow3 N E n C w' u) ∧ (∀ u, Mk4 N E y w u → Mk4 N E y w' u) := fun w' hb => ⟨hb.mono hN, fun u hu => hu.below hb, fun u hu => hu.below hb⟩
  rcases h with ⟨h0, b, rfl⟩ | ⟨h0, hown⟩
  · subst h0
    have hC0 : C = [] := List.eq_nil_of_length_eq_zero hC
    subst hC0
    have g := run_append_grow (P := Tryz.prog) w TS ty E i0 z ht hi hz0 ⟨b, 0, none⟩ 0 0 [] (by simp) (fun j v hv => by simp at hv) ⟨b4, 0, none⟩ 1 1 [y] (by rw [hz1]; rfl) hnews (by omega) (by omega) (by rw [hz2]; exact growslice_fits (by omega) (by omega))
    have g0 := run_append_nil (P := Tryz.prog) w TS ty E i0 z ht hi hz0 ⟨b4, 0, none⟩ 1 1 [y] (by rw [hz1]; rfl) hnews (by omega) (by omega) (by rw [hz2]; omega)
    obtain ⟨v', w', q1, q2, q3, _⟩ := run_append_own (P := Tryz.prog) w N TS ty E i0 z 1 bytes ht hi hz0 hz1 hz2 hzs (by decide) (.slice none 0 0) 0 [] (World.ownsRow_nil _ _ _ _) ⟨b4, 0, none⟩ 1 1 [y] rfl hnews (fun u hu => by simp at hu; subst hu; exact hy) (by unfold maxLen; omega) (by omega) hN
    refine ⟨v', w', ?_, by simpa using q2, all w' ((Below.refl _ w).grown q3 (Nat.le_refl _) (fun k hk => by cases hk))⟩
    rw [← q1, g, g0]
    simp
  · obtain ⟨v', w', q1, q2, q3, q4, q5⟩ := run_append_own_at (P := Tryz.prog) w N TS ty E i0 z 1 bytes ht hi hz0 hz1 hz2 hzs (by decide) v n C hown ⟨b4, 0, none⟩ 1 1 [y] rfl hnews (fun u hu => by simp at hu; subst hu; exact hy) (by unfold maxLen; omega) (by omega) hN
    refine ⟨v', w', q1, q2, ?_⟩
    obtain ⟨hlen, hown2⟩ := hown
    rcases hown2 with ⟨_, hn0⟩ | ⟨g, cap, cur, rfl, hbg, hg, hnc, hcm, hcs, htake⟩
    · omega
    by_cases hroom : n + 1 ≤ cap
    · have hr := run_append_room (P := Tryz.prog) w TS ty E i0 ht hi g n cap cur hg ⟨b4, 0, none⟩ 1 1 [y] (by rw [hz1]; rfl) hnews (fun u hu => by simp at hu; subst hu; exact hy) hroom (by rw [hz1]; simp; omega)
      rw [q1] at hr
      simp only [Result.ok.injEq] at hr
      obtain ⟨_, rfl⟩ := hr
      have hne4 : b4 ≠ g := by
        rintro rfl
        rw [hg] at hh4
        simp at hh4
        subst hh4
        simp at hcs
        omega
      have hset : ∀ k, k ≠ g → (w.setRow g (cur.toList.take (n * i0.size) ++ [y] ++ cur.toList.drop (n * i0.size + [y].length)).toArray).heap[k]? = w.heap[k]? := fun k hk => setRow_other w g k _ hk
      have hsg := setRow_heap w g cur (cur.toList.take (n * i0.size) ++ [y] ++ cur.toList.drop (n * i0.size + [y].length)).toArray E (0, 0) hg
      refine ⟨(Below.refl _ w).grown q3 hN (fun k hk => by simp [Value.ownBlock] at hk; omega), ?_, ?_⟩
      · rintro u (hu | ⟨_, hl2, hu⟩)
        · exact .inl hu
        · refine .inr ⟨h0, hl2, ?_⟩
          rcases hu with hu | ⟨g2, cap2, cur2, e2, hbg2, hg2, hc1, hc2, hc3, hc4⟩
          · exact .inl hu
          · by_cases hgg : g2 = g
            · subst hgg
              rw [hg] at hg2
              simp at hg2
              subst hg2
              refine .inr ⟨g2, cap2, _, e2, hbg2, hsg, hc1, hc2, ?_, ?_⟩
              · simp
                rw [hz1]
                omega
              · rw [hz1]
                simp at hc4 ⊢
                rw [hc4]
                rw [List.take_append_of_le_length (by omega), List.take_of_length_le (by omega)]
            · exact .inr ⟨g2, cap2, cur2, e2, hbg2, (hset g2 hgg).trans hg2, hc1, hc2, hc3, hc4⟩
      · rintro u ⟨b, e, hb, hh⟩
        have hne : b ≠ g := by
          rintro rfl
          rw [hg] at hh
          simp at hh
          subst hh
          simp at hcs
          omega
        exact ⟨b, e, hb, (hset b hne).trans hh⟩
    · have holds : ∀ j u, C[j]? = some u → w.cell? ((⟨g, 0, none⟩ : Addr).add j) = some u := World.ownsRow.cells (g := g) ⟨hlen, .inr ⟨g, cap, cur, rfl, hbg, hg, hnc, hcm, hcs, htake⟩⟩ rfl
      have hr := run_append_grow (P := Tryz.prog) w TS ty E i0 z ht hi hz0 ⟨g, 0, none⟩ n cap C (by rw [hz1, Nat.mul_one]; exact hC) holds ⟨b4, 0, none⟩ 1 1 [y] (by rw [hz1]; rfl) hnews (by omega) (by omega) (by rw [hz2]; exact growslice_fits (by omega) (by omega))
      rw [q1] at hr
      simp only [Result.ok.injEq] at hr
      obtain ⟨_, rfl⟩ := hr
      exact all _ ((Below.refl _ w).drew.alloc (Nat.le_refl _) _)

end Go.Proofs.YtkndjbmlkfpfoaaGreatDoor

/-
  What stays in the drawn region append(append([]T{}, l...), m)[:len(l)].
-/
set_option linter.unusedSimpArgs false
set_option linter.unusedVariables false
namespace Go.Proofs.YtkndjbmlkfpfoaaGreatDoor
open Go Go.RowKit Go.Lib

theorem run_appendO {P : Program} {o : Oper} {ρ : Operand → Value} {w : World} {v' : Value} {w' : World} (s x : Operand) (t : TypeId)
    (ho : o.op = .call { callee := .builtin .append, args := #[s, x], argTypes := #[t, t] }) {v u : Value} (hs : ρ s = v) (hx : ρ x = u) (hr : (Builtin.append_ #[t, t] o.type #[v, u]).run P w = .ok v' w') : (execOp ρ o).run P w = .ok (.value v') w' := by
  unfold execOp
  simp only [ho, resolve, invoke, builtin, Sem.run_bind, Sem.run_pure, Result.andThen_ok, List.map_toArray, List.map_cons, List.map_nil, hs, hx, hr]
def trueV : World → Value → Prop := fun _ _ => True
def Em0 : World → Value → Prop := fun _ v => ∃ b, v = .slice (some ⟨b, 0, none⟩) 0 0
def Row5 (N : Nat) (E : TypeId) (n : Nat) (C : List Value) (W : World) (v : Value) : Prop := W.ownsRow N E 1 v (n + 1) C
def Row9 (N : Nat) (E : TypeId) (n : Nat) (C : List Value) (W : World) (v : Value) : Prop := ∃ g c, v = .slice (some ⟨g, 0, none⟩) n c ∧ W.ownsRow N E 1 (.slice (some ⟨g, 0, none⟩) (n + 1) c) (n + 1) C
theorem own_gq {N : Nat} {E : TypeId} {k n : Nat} {C : List Value} {W W' : World} {v : Value} (h : W.ownsRow N E k v n C) (hg : ∀ i, N ≤ i → i < W.heap.size → W'.heap[i]? = W.heap[i]?) : W'.ownsRow N E k v n C := by
  obtain ⟨h1, h2⟩ := h
  refine ⟨h1, ?_⟩
  rcases h2 with h2 | ⟨g, cap, cur, e, hbg, hh, hc⟩
  · exact .inl h2
  · exact .inr ⟨g, cap, cur, e, hbg, (hg g hbg (Array.getElem?_eq_some_iff.1 hh).1).trans hh, hc⟩
structure Gs6 (N : Nat) (E : TypeId) (n : Nat) (C : List Value) (y : Value) (i : Nat) (W W' : World) : Prop where
  ow : ∀ v, Ow3 N E n C W v → Ow3 N E n C W' v
  mkd : ∀ v, Mk4 N E y W v → Mk4 N E y W' v
  r : i ≠ 5 → ∀ k, N ≤ k → k < W.heap.size → W'.heap[k]? = W.heap[k]?
theorem Gs6.of_r {N : Nat} {E : TypeId} {n : Nat} {C : List Value} {y : Value} {i : Nat} {W W' : World} (h : ∀ k, N ≤ k → k < W.heap.size → W'.heap[k]? = W.heap[k]?) : Gs6 N E n C y i W W' := by
  refine ⟨fun v hv => ?_, fun v hv => ?_, fun _ => h⟩
  · rcases hv with hv | ⟨h0, hv⟩
    · exact .inl hv
    · exact .inr ⟨h0, own_gq hv h⟩
  · obtain ⟨b, e, h1, h2⟩ := hv
    exact ⟨b, e, h1, (h b h1 (Array.getElem?_eq_some_iff.1 h2).1).trans h2⟩
theorem Gs6.refl {N : Nat} {E : TypeId} {n : Nat} {C : List Value} {y : Value} {i : Nat} (W : World) : Gs6 N E n C y i W W := .of_r fun _ _ _ => rfl
theorem Gs6.below {N : Nat} {E : TypeId} {n : Nat} {C : List Value} {y : Value} {i : Nat} {W W' : World} (h : Below W.heap.size W W') : Gs6 N E n C y i W W' := .of_r fun k _ hk => h.block k hk
theorem Gs6.r5 {N : Nat} {E : TypeId} {n : Nat} {C D : List Value} {y : Value} {i : Nat} {W W' : World} {v : Value} (h : Gs6 N E n C y i W W') (hi : i ≠ 5) (hv : Row5 N E n D W v) : Row5 N E n D W' v := own_gq hv (h.r hi)
theorem Gs6.r9 {N : Nat} {E : TypeId} {n : Nat} {C D : List Value} {y : Value} {i : Nat} {W W' : World} {v : Value} (h : Gs6 N E n C y i W W') (hi : i ≠ 5) (hv : Row9 N E n D W v) : Row9 N E n D W' v := by
  obtain ⟨g, c, e, ho⟩ := hv
  exact ⟨g, c, e, own_gq ho (h.r hi)⟩

/-- what the region knows of the world -/
structure Lj6 (N b off : Nat) (E : TypeId) (n : Nat) (D : List Value) (X : World) (f : Nat → Bool) (W : World) : Prop where
  o : f 9 = true → f 5 = true
  w : (f 11 = false ∧ Below N X W ∧ N ≤ W.heap.size) ∨ (f 11 = true ∧ ∃ U g c, Below N X U ∧ N ≤ U.heap.size ∧ W = U.setCell ⟨b, off, none⟩ (.slice (some ⟨g, 0, none⟩) n c) ∧ U.ownsRow N E 1 (.slice (some ⟨g, 0, none⟩) (n + 1) c) (n + 1) D)
theorem Lj6.nop {N b off : Nat} {E : TypeId} {n : Nat} {D : List Value} {X W : World} {f : Nat → Bool} (h : Lj6 N b off E n D X f W) (i : Nat) (hi : i ≠ 11) (h9 : i = 9 → f 5 = true) : Lj6 N b off E n D X (fun q => f q || q == i) W := by
  refine ⟨fun e => ?_, ?_⟩
  · simp only [Bool.or_eq_true, beq_iff_eq] at e ⊢
    rcases e with e | e
    · exact .inl (h.o e)
    · exact .inl (h9 e.symm)
  · have e : (f 11 || 11 == i) = f 11 := by
      have : (11 == i) = false := by rw [beq_eq_false_iff_ne]; exact fun e => hi e.symm
      rw [this, Bool.or_false]
    rw [e]
    exact h.w
theorem Lj6.grow {N b off : Nat} {E : TypeId} {n : Nat} {D : List Value} {X W W' : World} {f : Nat → Bool} (h : Lj6 N b off E n D X f W) (i : Nat) (hi : i ≠ 11) (h9 : i ≠ 9) (h11 : f 11 = false) (hb : Below N W W') : Lj6 N b off E n D X (fun q => f q || q == i) W' := by
  have h0 := h.nop i hi (fun e => absurd e h9)
  refine ⟨h0.o, ?_⟩
  rcases h0.w with ⟨e, k1, k2⟩ | ⟨e, _⟩
  · exact .inl ⟨e, k1.trans hb, Nat.le_trans k2 hb.size⟩
  · exfalso
    simp only [h11, Bool.false_or, beq_iff_eq] at e
    exact hi e.symm
theorem Lj6.base {N b off : Nat} {E : TypeId} {n : Nat} {D : List Value} {X W : World} {f : Nat → Bool} (h : Lj6 N b off E n D X f W) (h11 : f 11 = false) : Below N X W ∧ N ≤ W.heap.size := by
  rcases h.w with ⟨_, k⟩ | ⟨e, _⟩
  · exact k
  · rw [h11] at e; cases e
theorem Lj6.store {N b off : Nat} {E : TypeId} {n : Nat} {D : List Value} {X W : World} {f : Nat → Bool} (h : Lj6 N b off E n D X f W) (h11 : f 11 = false) {g c : Nat} (ho : W.ownsRow N E 1 (.slice (some ⟨g, 0, none⟩) (n + 1) c) (n + 1) D) : Lj6 N b off E n D X (fun q => f q || q == 11) (W.setCell ⟨b, off, none⟩ (.slice (some ⟨g, 0, none⟩) n c)) := by
  refine ⟨fun e => ?_, .inr ⟨by simp, W, g, c, (h.base h11).1, (h.base h11).2, rfl, ho⟩⟩
  simp at e ⊢
  exact h.o e
theorem Lj6.fin {N b off : Nat} {E : TypeId} {n : Nat} {D : List Value} {X W : World} {f : Nat → Bool} (h : Lj6 N b off E n D X f W) (h11 : f 11 = true) : ∃ U g c, Below N X U ∧ N ≤ U.heap.size ∧ W = U.setCell ⟨b, off, none⟩ (.slice (some ⟨g, 0, none⟩) n c) ∧ U.ownsRow N E 1 (.slice (some ⟨g, 0, none⟩) (n + 1) c) (n + 1) D := by
  rcases h.w with ⟨e, _⟩ | ⟨_, k⟩
  · rw [h11] at e; cases e
  · exact k
/-- x[:n] of a slice with room -/
theorem slice_to (TS E : TypeId) (ht : Tryz.prog.underlying TS = some (.slice E)) {z : Value} {bytes : Nat} (hinf : (Tryz.prog.info? E).map (fun i => (i.zero, i.size, i.bytes)) = some (some z, 1, bytes)) (w : World) (a : Option Addr) (n c k : Nat) (hk : k ≤ c) :
    (Instr.sliceAt TS (.slice a n c) none (some (.int .i64 (k : Nat))) none).run Tryz.prog w = .ok (.slice a k c) w := by
  obtain ⟨i0, hi, hz0, hz1, hz2⟩ := info_parts5 hinf
  have h1 : (k : Int) ≤ (c : Int) := by omega
  simp [Instr.sliceAt, Instr.slice, run_underlying ht, sizeOf, typeInfo, hi, hz1, go_sem, h1, hk]
theorem own_cap' {W : World} {B E k n : Nat} {v : Value} {C : List Value} (h : W.ownsRow B E k v (n + 1) C) : ∃ g c, v = .slice (some ⟨g, 0, none⟩) (n + 1) c ∧ n + 1 ≤ c := by
  obtain ⟨_, (⟨_, h0⟩ | ⟨g, cap, cur, e, _, _, h1, _⟩)⟩ := h
  · omega
  · exact ⟨g, cap, e, h1⟩
theorem frame_fn {a : Act} (N : Nat) (hs : a.tmps.size = N) (hd : a.defers = []) : a = { tmps := ((List.range N).map fun k => a.eval (.tmp k)).toArray, defers := [] } := by
  obtain ⟨t, d⟩ := a
  simp only at hs hd
  subst hd
  congr 1
  apply Array.ext
  · simp [hs]
  · intro i h1 h2
    simp [Act.eval, h1]

end Go.Proofs.YtkndjbmlkfpfoaaGreatDoor
