/-
  Appending rows to rows of one's own; rows of events of one's own.
-/
import Derived.Test.YtmglnaldpcmakaaZOE
import Derived.Test.YtmglnaldpcmakaaZDG
import Derived.Lib.OwnKind
set_option linter.unusedSimpArgs false
set_option linter.unusedVariables false
namespace Go.Proofs.Ytmglnaldpcmakaa
open Go.RowKit Go.Lib Go.Shelf

/-- append(own, row...) -/
theorem app_row (TS E : TypeId) (k bytes : Nat) (z : Value) (ht : Try.prog.underlying TS = some (.slice E)) (hinf : (Try.prog.info? E).map (fun i => (i.zero, i.size, i.bytes)) = some (some z, k, bytes)) (hzs : z.cells.size = k) (k0 : 0 < k)
    (w : World) (base : Nat) (ty : TypeId) (v : Value) (n : Nat) (xs : List Value) (h : w.ownsRow base E k v n xs) (u : Value) (m : Nat) (D : List Value) (hu : RC w u m D) (hD : D.length = m * k) (h1 : ∀ x ∈ D, x.oneCell' = true) (hb : base ≤ w.heap.size) (hn : n + m ≤ 1000000) (hby : bytes ≤ 1000000) :
    ∃ v' w', (Builtin.append_ #[TS, TS] ty #[v, u]).run Try.prog w = .ok v' w' ∧ w'.ownsRow base E k v' (n + m) (xs ++ D) ∧ w.grownBy w' v.ownBlock ∧ (v'.ownBlock = v.ownBlock ∨ v'.ownBlock = some w.heap.size) := by
  obtain ⟨i0, hi, hz0, hz1, hz2⟩ := info_parts hinf
  have hbb : (n + m) * bytes ≤ 140737488355328 := by
    have : (n + m) * bytes ≤ 1000000 * 1000000 := Nat.mul_le_mul hn hby
    omega
  have step : ∀ (ad : Addr) (cc : Nat), u = .slice (some ad) m cc → (∀ j x, D[j]? = some x → w.cell? (ad.add j) = some x) → ∃ v' w', (Builtin.append_ #[TS, TS] ty #[v, u]).run Try.prog w = .ok v' w' ∧ w'.ownsRow base E k v' (n + m) (xs ++ D) ∧ w.grownBy w' v.ownBlock ∧ (v'.ownBlock = v.ownBlock ∨ v'.ownBlock = some w.heap.size) := by
    rintro ad cc rfl hc
    obtain ⟨v', w', q1, q2, q3, _, q5⟩ := run_append_own_at (P := Try.prog) w base TS ty E i0 z k bytes ht hi hz0 hz1 hz2 hzs k0 v n xs h ad m cc D hD hc h1 (by unfold maxLen; omega) hbb hb
    exact ⟨v', w', q1, q2, q3, q5⟩
  rcases hu with ⟨h0, a, cap, rfl⟩ | ⟨b, off, cap, rfl, _, _, hc⟩
  · subst h0
    have e : D = [] := List.eq_nil_of_length_eq_zero (by simpa using hD)
    subst e
    cases a with
    | some ad => exact step ad cap rfl (fun j x hx => by simp at hx)
    | none =>
      refine ⟨v, w, ?_, by simpa using h, ⟨rfl, rfl, rfl, Nat.le_refl _, fun _ _ _ => rfl⟩, .inl rfl⟩
      rcases h with ⟨_, (⟨rfl, rfl⟩ | ⟨g, c, cur, rfl, _, _, hnc, _⟩)⟩
      · simp [Builtin.append_, run_underlying ht, sizeOf, typeInfo, hi, Builtin.lenOf, Builtin.firstCells, storeCells]
      · simp [Builtin.append_, run_underlying ht, sizeOf, typeInfo, hi, Builtin.lenOf, Builtin.firstCells, storeCells, hnc]
  · exact step ⟨b, off, none⟩ cap rfl (fun j x hx => by rw [Addr.add_lit]; exact hc j x hx)

/-- []T{} -/
theorem own_zero (w : World) (E : TypeId) (k : Nat) (base : Nat) (hb : base ≤ w.heap.size) : (w.alloc (.cells #[] E)).ownsRow base E k (.slice (some ⟨w.heap.size, 0, none⟩) 0 0) 0 [] :=
  ⟨by simp, .inr ⟨w.heap.size, 0, #[], rfl, hb, World.alloc_heap_new _ _, Nat.le_refl _, Nat.zero_le _, by simp, by simp⟩⟩

theorem infoE : (Try.prog.info? 27).map (fun i => (i.zero, i.size, i.bytes)) = some (some (.agg #[.int .i64 0, .int .i64 0, .int .i64 0, .int .i64 0, .int .i64 0, .int .i64 0, .bool false]), 7, 56) := by kernel_rfl
theorem evC_one (e : Ev) : ∀ u ∈ evC e, u.oneCell' = true := by
  intro u hu
  simp [evC] at hu
  rcases hu with rfl | rfl | rfl | rfl | rfl | rfl | rfl <;> rfl
theorem flatE_one (l : List Ev) : ∀ u ∈ flat evC l, u.oneCell' = true := fun u hu => by
  obtain ⟨e, _, h⟩ := flat_mem hu
  exact evC_one e u h
/-- a row of events of one's own -/
def OwV (W : World) (B : Nat) (v : Value) (l : List Ev) : Prop := W.ownsRow B 27 7 v l.length (flat evC l)
theorem OwV.row {W : World} {B : Nat} {v : Value} {l : List Ev} (h : OwV W B v l) : RV W v l := RC.of_owns h
theorem OwV.form {W : World} {B : Nat} {v : Value} {l : List Ev} (h : OwV W B v l) : ∃ a c, v = .slice a l.length c := owns_form h
theorem app_evs (w : World) (base : Nat) (ty : TypeId) (v : Value) (l : List Ev) (h : OwV w base v l) (u : Value) (m : List Ev) (hu : RV w u m) (hb : base ≤ w.heap.size) (hn : l.length + m.length ≤ 1000000) :
    ∃ v' w', (Builtin.append_ #[22, 22] ty #[v, u]).run Try.prog w = .ok v' w' ∧ OwV w' base v' (l ++ m) ∧ w.grownBy w' v.ownBlock ∧ (v'.ownBlock = v.ownBlock ∨ v'.ownBlock = some w.heap.size) := by
  obtain ⟨v', w', h1, h2, h3, h4⟩ := app_row 22 27 7 56 _ Try.underlying22 infoE rfl (by decide) w base ty v l.length _ h u m.length _ hu (flat_len evC_len m) (flatE_one m) hb hn (by omega)
  refine ⟨v', w', h1, ?_, h3, h4⟩
  unfold OwV
  rw [flat_append, List.length_append]
  exact h2
theorem app_ints (w : World) (base : Nat) (ty : TypeId) (v : Value) (l : List Int) (h : OwN w base v l) (u : Value) (m : List Int) (hu : RN w u m) (hb : base ≤ w.heap.size) (hn : l.length + m.length ≤ 1000000) :
    ∃ v' w', (Builtin.append_ #[23, 23] ty #[v, u]).run Try.prog w = .ok v' w' ∧ OwN w' base v' (l ++ m) ∧ w.grownBy w' v.ownBlock ∧ (v'.ownBlock = v.ownBlock ∨ v'.ownBlock = some w.heap.size) := by
  obtain ⟨v', w', h1, h2, h3, h4⟩ := app_row 23 3 1 8 _ Try.underlying23 infoN rfl (by decide) w base ty v l.length _ h u m.length _ hu (by rw [nC_len, Nat.mul_one]) (fun x hx => by simp [nC] at hx; obtain ⟨y, _, rfl⟩ := hx; rfl) hb hn (by omega)
  refine ⟨v', w', h1, ?_, h3, h4⟩
  unfold OwN
  rw [nC_app, List.length_append]
  exact h2

/-- append(append([]T{}, m...), l...) -/
theorem two_evs (W : World) (ty ty' : TypeId) (um ul : Value) (m l : List Ev) (hm : RV W um m) (hl : RV W ul l) (hn : m.length + l.length ≤ 100000) :
    ∃ v1 X1 v2 X2, (Builtin.append_ #[22, 22] ty #[.slice (some ⟨W.heap.size, 0, none⟩) 0 0, um]).run Try.prog (W.alloc (.cells #[] 27)) = .ok v1 X1 ∧
      (Builtin.append_ #[22, 22] ty' #[v1, ul]).run Try.prog X1 = .ok v2 X2 ∧ OwV X2 W.heap.size v2 (m ++ l) ∧ Below W.heap.size W X2 := by
  have h0 : OwV (W.alloc (.cells #[] 27)) W.heap.size (.slice (some ⟨W.heap.size, 0, none⟩) 0 0) [] := own_zero W 27 7 W.heap.size (Nat.le_refl _)
  have al := ballc (Below.refl W.heap.size W) (.cells #[] 27)
  obtain ⟨v1, X1, r1, o1, g1, -⟩ := app_evs _ W.heap.size ty _ [] h0 um m (hm.below al) al.size (by simp; omega)
  have b1 : Below W.heap.size W X1 := (Kp.of_grown (N := fun k => (Value.slice (some ⟨W.heap.size, 0, none⟩) 0 0).ownBlock = some k) g1 (fun k e => e)).below al (fun i e => owns_ge h0 i e)
  obtain ⟨v2, X2, r2, o2, g2, -⟩ := app_evs X1 W.heap.size ty' v1 _ o1 ul l (hl.below b1) b1.size (by simp; omega)
  have b2 : Below W.heap.size W X2 := (Kp.of_grown (N := fun k => v1.ownBlock = some k) g2 (fun k e => e)).below b1 (fun i e => owns_ge o1 i e)
  exact ⟨v1, X1, v2, X2, r1, r2, by simpa using o2, b2⟩
theorem two_ints (W : World) (ty ty' : TypeId) (um ul : Value) (m l : List Int) (hm : RN W um m) (hl : RN W ul l) (hn : m.length + l.length ≤ 100000) :
    ∃ v1 X1 v2 X2, (Builtin.append_ #[23, 23] ty #[.slice (some ⟨W.heap.size, 0, none⟩) 0 0, um]).run Try.prog (W.alloc (.cells #[] 3)) = .ok v1 X1 ∧
      (Builtin.append_ #[23, 23] ty' #[v1, ul]).run Try.prog X1 = .ok v2 X2 ∧ OwN X2 W.heap.size v2 (m ++ l) ∧ Below W.heap.size W X2 := by
  have h0 : OwN (W.alloc (.cells #[] 3)) W.heap.size (.slice (some ⟨W.heap.size, 0, none⟩) 0 0) [] := own_zero W 3 1 W.heap.size (Nat.le_refl _)
  have al := ballc (Below.refl W.heap.size W) (.cells #[] 3)
  obtain ⟨v1, X1, r1, o1, g1, -⟩ := app_ints _ W.heap.size ty _ [] h0 um m (hm.below al) al.size (by simp; omega)
  have b1 : Below W.heap.size W X1 := (Kp.of_grown (N := fun k => (Value.slice (some ⟨W.heap.size, 0, none⟩) 0 0).ownBlock = some k) g1 (fun k e => e)).below al (fun i e => owns_ge h0 i e)
  obtain ⟨v2, X2, r2, o2, g2, -⟩ := app_ints X1 W.heap.size ty' v1 _ o1 ul l (hl.below b1) b1.size (by simp; omega)
  have b2 : Below W.heap.size W X2 := (Kp.of_grown (N := fun k => v1.ownBlock = some k) g2 (fun k e => e)).below b1 (fun i e => owns_ge o1 i e)
  exact ⟨v1, X1, v2, X2, r1, r2, by simpa using o2, b2⟩
/-- append(own, e) of one event -/
theorem append_ev (w : World) (ty : TypeId) (N : Nat) (v : Value) (l : List Ev) (e : Ev) (h : OwV w N v l) (hN : N ≤ w.heap.size) (hl : l.length ≤ 100000) :
    ∃ v' w', (Builtin.append_ #[22, 22] ty #[v, .slice (some ⟨w.heap.size, 0, none⟩) 1 1]).run Try.prog (w.alloc (.cells (evC e).toArray 27)) = .ok v' w' ∧ OwV w' N v' (l ++ [e]) ∧ ((Below N w w') ∨ True) ∧ ∀ w0 : World, N = w0.heap.size → Below N w0 w → Below N w0 w' := by
  have al := ballc (Below.refl w.heap.size w) (.cells (evC e).toArray 27)
  have bx := Bx.new w 27 (evC e).toArray
  have hs : RV (w.alloc (.cells (evC e).toArray 27)) (.slice (some ⟨w.heap.size, 0, none⟩) 1 1) [e] := rc_bx bx (by simp [flat_cons, flat_nil]) (Nat.le_refl _)
  obtain ⟨v', w', r, o, g, -⟩ := app_evs _ N ty v l (owns_below h al) _ [e] hs (Nat.le_trans hN al.size) (by simp; omega)
  refine ⟨v', w', r, o, .inr trivial, fun w0 hw hb => ?_⟩
  subst hw
  exact (Kp.of_grown (N := fun k => v.ownBlock = some k) g (fun k e => e)).below (ballc hb _) (fun i e => owns_ge h i e)

theorem sev_snoc {l : List Int} {y x : Int} (hx : (l ++ [y])[0]? = some x) : Sev (l ++ [y]) ↔ Sev l ∨ y ≠ x := by
  rw [sev_first _ x hx]
  constructor
  · rintro ⟨z, hz, hne⟩
    rcases List.mem_append.1 hz with h | h
    · cases l with
      | nil => simp at h
      | cons q l =>
        simp at hx
        subst hx
        exact .inl ((sev_first (q :: l) q rfl).2 ⟨z, h, hne⟩)
    · simp at h
      subst h
      exact .inr hne
  · rintro (h | h)
    · cases l with
      | nil => exact absurd h sev_nil
      | cons q l =>
        simp at hx
        subst hx
        obtain ⟨z, hz, hne⟩ := (sev_first (q :: l) q rfl).1 h
        exact ⟨z, List.mem_append_left _ hz, hne⟩
    · exact ⟨y, by simp, h⟩
/-- those of the first i that are not x -/
def fewL (lv : List Int) (x : Int) (i : Nat) : List Int := (lv.take i).filter (fun y => decide (y ≠ x))
theorem fewL_succ {lv : List Int} {x y : Int} {i : Nat} (hy : lv[i]? = some y) : fewL lv x (i + 1) = fewL lv x i ++ (if y ≠ x then [y] else []) := by
  unfold fewL
  rw [List.take_add_one, hy, List.filter_append]
  congr 1
  by_cases h : y = x <;> simp [h]
theorem fewL_len (lv : List Int) (x : Int) (i : Nat) : (fewL lv x i).length ≤ lv.length := by
  unfold fewL
  have h1 := List.length_filter_le (fun y => decide (y ≠ x)) (lv.take i)
  rw [List.length_take] at h1
  omega
theorem fewL_sub {lv : List Int} {x : Int} {i : Nat} : ∀ a ∈ fewL lv x i, a ∈ lv := fun a ha => List.mem_of_mem_take (List.mem_filter.1 ha).1
theorem drop_rev {es : List Ev} {j : Nat} {e : Ev} (he : es[j]? = some e) : (es.drop (j + 1)).reverse ++ [e] = (es.drop j).reverse := by
  have hj := (List.getElem?_eq_some_iff.1 he).1
  rw [List.getElem?_eq_getElem hj] at he
  simp at he
  rw [List.drop_eq_getElem_cons hj, List.reverse_cons, he]

theorem wpList_append_want {w : World} {ops : Array Oper} {rest : List Oper} {o : Oper} {a : Act} {Q : Exit → Act → World → Prop} (hw : Region.wanted o (yielded ops a.tmps) = true) (s x : Operand) (t t' : TypeId)
    (ho : o.op = .call { callee := .builtin .append, args := #[s, x], argTypes := #[t, t'] }) (v u v' : Value) (w' : World) (hs : a.eval s = v) (hx : a.eval x = u) (hr : (Builtin.append_ #[t, t'] o.type #[v, u]).run Try.prog w = .ok v' w')
    (h : wpList Try.prog ops Q rest (a.put o.dst v') w') : wpList Try.prog ops Q (o :: rest) a w := by
  refine wpList_step fun K hK => ?_
  rw [if_pos hw]
  unfold Oper.wp execOp
  simp only [ho, resolve, invoke, builtin, Sem.run_bind, Sem.run_pure, Result.andThen_ok, List.map_toArray, List.map_cons, List.map_nil, hs, hx, hr]
  exact hK _ _ h

end Go.Proofs.Ytmglnaldpcmakaa
