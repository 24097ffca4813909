/-
  Rows of runes: parts of them, and appending them.
-/
import Derived.Test.YtlbgfcbhpmhhpaaZK1
import Derived.OwnWalk
import Derived.Laws.AppendOwn
set_option linter.unusedSimpArgs false
set_option linter.unusedVariables false
namespace Go.Proofs.Ytlbgfcbhpmhhpaa
open Go.RowKit Go.Lib

theorem info32k : (Try.prog.info? 21).map (fun i => (i.zero, i.size, i.bytes)) = some (some (.int .i32 0), 1, 4) := by kernel_rfl
theorem infoStrK : (Try.prog.info? 9).map (fun i => (i.zero, i.size, i.bytes)) = some (some (.string ⟨#[]⟩), 1, 16) := by kernel_rfl

theorem sl_to (w : World) (a : Option Addr) (n c k : Nat) (hk : k ≤ c) :
    (Instr.sliceAt 44 (.slice a n c) none (some (.int .i64 (k : Nat))) none).run Try.prog w = .ok (.slice a k c) w := by
  obtain ⟨i0, hi, hz0, hz1, hz2⟩ := info_parts info32k
  have h1 : (k : Int) ≤ (c : Int) := by omega
  have e : (if c = 0 then a else a.map (·.add (0 * 1))) = a := by
    split
    · rfl
    · cases a with
      | none => rfl
      | some ad => simp [Addr.add]
  simp [Instr.sliceAt, Instr.slice, run_underlying Try.underlying44, sizeOf, typeInfo, hi, hz1, go_sem, h1, hk]
theorem sl_mid (w : World) (a : Option Addr) (n c k m : Nat) (h1 : k ≤ m) (h2 : m ≤ c) :
    (Instr.sliceAt 44 (.slice a n c) (some (.int .i64 (k : Nat))) (some (.int .i64 (m : Nat))) none).run Try.prog w = .ok (.slice (if c = k then a else a.map (·.add k)) (m - k) (c - k)) w := by
  obtain ⟨i0, hi, hz0, hz1, hz2⟩ := info_parts info32k
  have g1 : (k : Int) ≤ (m : Int) := by omega
  have g2 : (m : Int) ≤ (c : Int) := by omega
  simp [Instr.sliceAt, Instr.slice, run_underlying Try.underlying44, sizeOf, typeInfo, hi, hz1, go_sem, g1, g2, h1, h2]
theorem sl_from (w : World) (a : Option Addr) (n c k : Nat) (h1 : k ≤ n) (h2 : n ≤ c) :
    (Instr.sliceAt 44 (.slice a n c) (some (.int .i64 (k : Nat))) none none).run Try.prog w = .ok (.slice (if c = k then a else a.map (·.add k)) (n - k) (c - k)) w := by
  obtain ⟨i0, hi, hz0, hz1, hz2⟩ := info_parts info32k
  have h3 : (k : Int) ≤ (n : Int) := by omega
  simp [Instr.sliceAt, Instr.slice, run_underlying Try.underlying44, sizeOf, typeInfo, hi, hz1, go_sem, h1, h2, h3]

theorem RS.take {W : World} {a : Option Addr} {n c k : Nat} {X : List Int} (h : RS W (.slice a n c) X) (hn : X.length = n) (hk : k ≤ n) : RS W (.slice a k c) (X.take k) := by
  have hl : (X.take k).length = k := by rw [List.length_take]; omega
  rcases h with ⟨rfl, _⟩ | ⟨b, off, cap, e, hc⟩
  · simp at hn
    obtain rfl : k = 0 := by omega
    exact .inl ⟨by simp, _, _, rfl⟩
  · simp only [Value.slice.injEq] at e
    obtain ⟨rfl, _, rfl⟩ := e
    refine .inr ⟨b, off, c, by rw [hl], fun j hj => ?_⟩
    rw [hl] at hj
    rw [hc j (by omega), List.getElem?_take, if_pos hj]
theorem RS.drop {W : World} {a : Option Addr} {n c k : Nat} {X : List Int} (h : RS W (.slice a n c) X) (hn : X.length = n) (hk : k ≤ n) (hc0 : n ≤ c) : RS W (.slice (if c = k then a else a.map (·.add k)) (n - k) (c - k)) (X.drop k) := by
  have hl : (X.drop k).length = n - k := by rw [List.length_drop, hn]
  by_cases e0 : n = k
  · refine .inl ⟨List.eq_nil_of_length_eq_zero (by omega), if c = k then a else a.map (·.add k), c - k, by rw [show n - k = 0 by omega]⟩
  · rw [if_neg (by omega)]
    rcases h with ⟨rfl, _⟩ | ⟨b, off, cap, e, hc⟩
    · simp at hn; omega
    · simp only [Value.slice.injEq] at e
      obtain ⟨rfl, _, rfl⟩ := e
      refine .inr ⟨b, off + k, c - k, by rw [hl, Option.map_some, Addr.add_lit], fun j hj => ?_⟩
      rw [hl] at hj
      rw [Nat.add_assoc, hc (k + j) (by omega), List.getElem?_drop]

theorem app_R (w : World) (base : Nat) (ty : TypeId) (v : Value) (xs : List Int) (hown : w.ownsRow base 21 1 v xs.length (xs.map (Value.int .i32))) (u : Value) (ys : List Int) (hu : RS w u ys) (hb : base ≤ w.heap.size) (hl : xs.length + ys.length ≤ 1000000000) :
    ∃ v' w', (Builtin.append_ #[44, 44] ty #[v, u]).run Try.prog w = .ok v' w' ∧ w'.ownsRow base 21 1 v' (xs ++ ys).length ((xs ++ ys).map (Value.int .i32)) ∧ w.grownBy w' v.ownBlock := by
  obtain ⟨i0, hi, hz0, hz1, hz2⟩ := info_parts info32k
  have step : ∀ (ad : Addr) (cc : Nat), u = .slice (some ad) ys.length cc → (∀ j x, (ys.map (Value.int .i32))[j]? = some x → w.cell? (ad.add j) = some x) → ∃ v' w', (Builtin.append_ #[44, 44] ty #[v, u]).run Try.prog w = .ok v' w' ∧ w'.ownsRow base 21 1 v' (xs ++ ys).length ((xs ++ ys).map (Value.int .i32)) ∧ w.grownBy w' v.ownBlock := by
    rintro ad cc rfl hc
    obtain ⟨v', w', h1, h2, h3, h4⟩ := run_append_own (P := Try.prog) w base 44 ty 21 i0 (.int .i32 0) 1 4 Try.underlying44 hi hz0 hz1 hz2 rfl (by decide) _ xs.length _ hown ad ys.length cc (ys.map (Value.int .i32)) (by simp) hc (fun x hx => by obtain ⟨y, _, rfl⟩ := List.mem_map.1 hx; rfl) (by unfold maxLen; omega) (by omega) hb
    exact ⟨v', w', h1, by rw [List.length_append, List.map_append]; exact h2, h3⟩
  rcases hu with ⟨rfl, b, cc, rfl⟩ | ⟨g, off, cc, rfl, hc⟩
  · cases b with
    | some ad => exact step ad cc rfl (fun j x h => by simp at h)
    | none =>
      rcases hown.2 with ⟨rfl, e0⟩ | ⟨g, cap, cur, rfl, h1, h2, h3, _⟩
      · have hx : xs = [] := List.eq_nil_of_length_eq_zero e0
        subst hx
        refine ⟨.slice none 0 0, w, ?_, World.ownsRow_nil _ _ _ _, World.grownBy.refl _ _⟩
        simp [Builtin.append_, run_underlying Try.underlying44, sizeOf, typeInfo, hi, Builtin.lenOf, Builtin.firstCells, storeCells]
      · refine ⟨.slice (some ⟨g, 0, none⟩) xs.length cap, w, ?_, by simpa using hown, World.grownBy.refl _ _⟩
        simp [Builtin.append_, run_underlying Try.underlying44, sizeOf, typeInfo, hi, Builtin.lenOf, Builtin.firstCells, h3, storeCells]
  · refine step ⟨g, off, none⟩ cc rfl (fun j x h => ?_)
    rw [List.getElem?_map] at h
    cases hy : ys[j]? with
    | none => rw [hy] at h; cases h
    | some y =>
      rw [hy] at h
      simp at h
      subst h
      have hj := (List.getElem?_eq_some_iff.1 hy).1
      rw [Addr.add_lit, hc j hj, hy]
      rfl

theorem run_append {P : Program} {o : Oper} {ρ : Operand → Value} {w : World} {v' : Value} {w' : World} (s x : Operand) (t : TypeId)
    (ho : o.op = .call { callee := .builtin .append, args := #[s, x], argTypes := #[t, t] }) {v u : Value} (hs : ρ s = v) (hx : ρ x = u) (hr : (Builtin.append_ #[t, t] o.type #[v, u]).run P w = .ok v' w') : (execOp ρ o).run P w = .ok (.value v') w' := by
  unfold execOp
  simp only [ho, resolve, invoke, builtin, Sem.run_bind, Sem.run_pure, Result.andThen_ok, List.map_toArray, List.map_cons, List.map_nil, hs, hx, hr]

theorem wpList_append_R {ops : Array Oper} {rest : List Oper} {o : Oper} {a : Act} {w : World} {Q : Exit → Act → World → Prop} (hw : Region.wanted o (yielded ops a.tmps) = true) (s x : Operand)
    (ho : o.op = .call { callee := .builtin .append, args := #[s, x], argTypes := #[44, 44] })
    (base : Nat) (v : Value) (xs : List Int) (hs : a.eval s = v) (hown : w.ownsRow base 21 1 v xs.length (xs.map (Value.int .i32))) (u : Value) (ys : List Int) (hx : a.eval x = u) (hu : RS w u ys) (hb : base ≤ w.heap.size) (hl : xs.length + ys.length ≤ 1000000000)
    (h : ∀ v' w', w'.ownsRow base 21 1 v' (xs ++ ys).length ((xs ++ ys).map (Value.int .i32)) → w.grownBy w' v.ownBlock → wpList Try.prog ops Q rest (a.put o.dst v') w') : wpList Try.prog ops Q (o :: rest) a w := by
  obtain ⟨v', w', h1, h2, h3⟩ := app_R w base o.type v xs hown u ys hu hb hl
  unfold wpList
  rw [if_pos hw]
  refine .inl ?_
  have hr := run_append (P := Try.prog) (o := o) (ρ := a.eval) s x 44 ho hs hx h1
  unfold Oper.wp
  rw [hr]
  exact h v' w' h2 h3

theorem box_grown {W W' : World} {q B e m n : Nat} {v0 v1 v2 v : Value} {xs : List Value} (h : Box3 W q v0 v1 v2) (hr : W.ownsRow B e m v n xs) (hne : e ≠ 32) (hg : W.grownBy W' v.ownBlock) : Box3 W' q v0 v1 v2 := by
  refine (hg.block q h.lt (fun e1 => ?_)).trans h
  rcases hr.2 with ⟨rfl, _⟩ | ⟨g, cap, cur, rfl, _, hgb, _⟩
  · simp [Value.ownBlock] at e1
  · obtain rfl : q = g := by simpa [Value.ownBlock] using e1
    have hb : W.heap[q]? = some (.cells #[v0, v1, v2] 32 (0, 0)) := h
    rw [hb] at hgb
    simp at hgb
    exact hne hgb.2.symm
theorem rows_apart {W : World} {B B' e e' m m' n n' : Nat} {v v' : Value} {xs xs' : List Value} (h : W.ownsRow B e m v n xs) (h' : W.ownsRow B' e' m' v' n' xs') (hne : e ≠ e') : v.ownBlock = none ∨ v.ownBlock ≠ v'.ownBlock := by
  rcases h.2 with ⟨rfl, _⟩ | ⟨g, cap, cur, rfl, _, hgb, _⟩
  · exact .inl rfl
  · refine .inr fun e1 => ?_
    rcases h'.2 with ⟨rfl, _⟩ | ⟨g', cap', cur', rfl, _, hgb', _⟩
    · simp [Value.ownBlock] at e1
    · obtain rfl : g = g' := by simpa [Value.ownBlock] using e1
      rw [hgb] at hgb'
      simp at hgb'
      exact hne hgb'.2

/-- a slice holds these texts -/
def ST (W : World) (v : Value) (l : List ByteArray) : Prop :=
  (l = [] ∧ ∃ a cap, v = .slice a 0 cap) ∨ ∃ b off cap, v = .slice (some ⟨b, off, none⟩) l.length cap ∧ ∀ j s, l[j]? = some s → W.cell? ⟨b, off + j, none⟩ = some (.string s)
theorem ST.below {W W' : World} {v : Value} {l : List ByteArray} (h : ST W v l) (hb : Below W.heap.size W W') : ST W' v l := by
  rcases h with h | ⟨b, off, cap, e, hc⟩
  · exact .inl h
  · exact .inr ⟨b, off, cap, e, fun j s hs => cell_below (hc j s hs) hb⟩
theorem ST.of_owns {W : World} {B : Nat} {v : Value} {l : List ByteArray} (h : W.ownsRow B 9 1 v l.length (l.map Value.string)) : ST W v l := by
  have h0 := h
  obtain ⟨hl, (⟨rfl, hn⟩ | ⟨g, cap, cur, rfl, hbg, hg, hc1, hc2, hc3, hc4⟩)⟩ := h
  · exact .inl ⟨List.eq_nil_of_length_eq_zero hn, _, _, rfl⟩
  · refine .inr ⟨g, 0, cap, rfl, fun j s hs => ?_⟩
    have hj := (List.getElem?_eq_some_iff.1 hs).1
    rw [Nat.zero_add, h0.cellAt j (by omega), List.getElem?_map, hs]
    rfl

theorem new_oneK (W : World) (c0 : Value) (t : TypeId) : ∀ j u, ([c0] : List Value)[j]? = some u → (W.alloc (.cells #[c0] t)).cell? ((⟨W.heap.size, 0, none⟩ : Addr).add j) = some u := by
  intro j u h
  match j, h with
  | 0, h => simp at h; subst h; simp [go_sem, Addr.add]
  | j + 1, h => simp at h

end Go.Proofs.Ytlbgfcbhpmhhpaa
