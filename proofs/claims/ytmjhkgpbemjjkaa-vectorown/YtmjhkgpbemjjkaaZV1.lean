/-
  Rows of Dots, and rows of seventeen numbers, in memory.
-/
import Derived.Test.YtmjhkgpbemjjkaaZV0
import Derived.Maps.AppendAt
set_option linter.unusedSimpArgs false
set_option linter.unusedVariables false
namespace Go.Proofs.Ytmjhkgpbemjjkaa
open Go.RowKit Go.Lib

def encI (x : Int × Int) : List Value := [.int .i64 x.1, .int .i64 x.2]
theorem encI_len (x : Int × Int) : (encI x).length = 2 := rfl
def in64 (n : Int) : Prop := -9223372036854775808 ≤ n ∧ n ≤ 9223372036854775807
def idIn (x : Int × Int) : Prop := in64 x.1 ∧ in64 x.2

/-- a row of Dots -/
def RI (W : World) (v : Value) (l : List (Int × Int)) : Prop := RC W v l.length (flat encI l)
theorem RI.below {W W' : World} {v : Value} {l : List (Int × Int)} (h : RI W v l) (hb : Below W.heap.size W W') : RI W' v l := RC.below h hb
theorem RI.at {W : World} {a : Option Addr} {n c : Nat} {l : List (Int × Int)} (h : RI W (.slice a n c) l) {i : Nat} {x : Int × Int} (hi : l[i]? = some x) : ∃ b off, a = some ⟨b, off, none⟩ ∧ b < W.heap.size ∧ W.cell? ⟨b, off + i * 2, none⟩ = some (.int .i64 x.1) ∧ W.cell? ⟨b, off + i * 2 + 1, none⟩ = some (.int .i64 x.2) := by
  have hl := (List.getElem?_eq_some_iff.1 hi).1
  rcases h with ⟨h0, _⟩ | ⟨b, off, cap, e, h1, h2, hc⟩
  · omega
  · simp at e
    obtain ⟨rfl, _⟩ := e
    have f := fun q (hq : q < 2) v (hv : (encI x)[q]? = some v) => hc (i * 2 + q) v ((flat_get encI_len l i q x hi hq).trans hv)
    exact ⟨b, off, rfl, h2, f 0 (by omega) _ rfl, f 1 (by omega) _ rfl⟩
theorem RI.form {W : World} {v : Value} {l : List (Int × Int)} (h : RI W v l) : ∃ a c, v = .slice a l.length c := RC.form h
theorem RI.take {W : World} {a : Option Addr} {c : Nat} {l m : List (Int × Int)} (h : RI W (.slice a (l ++ m).length c) (l ++ m)) : RI W (.slice a l.length c) l := by
  rcases h with ⟨h0, _⟩ | ⟨b, off, cap, e, h1, h2, hc⟩
  · exact .inl ⟨by simp at h0; simp [h0.1], _, _, by simp at h0; simp [h0.1]; exact ⟨rfl, rfl⟩⟩
  · simp only [Value.slice.injEq] at e
    obtain ⟨rfl, _, rfl⟩ := e
    refine .inr ⟨b, off, c, rfl, by simp at h1; omega, h2, fun j x hx => hc j x ?_⟩
    rw [flat_append, List.getElem?_append_left (List.getElem?_eq_some_iff.1 hx).1]
    exact hx

theorem wpList_append_eq {w : World} {ops : Array Oper} {rest : List Oper} {o : Oper} {a : Act} {Q : Exit → Act → World → Prop} (hgd : o.guard = none) (s x : Operand) (t : TypeId)
    (ho : o.op = .call { callee := .builtin .append, args := #[s, x], argTypes := #[t, t] }) (v u v' : Value) (w' : World) (hs : a.eval s = v) (hx : a.eval x = u) (hr : (Builtin.append_ #[t, t] o.type #[v, u]).run Try.prog w = .ok v' w')
    (h : wpList Try.prog ops Q rest (a.put o.dst v') w') : wpList Try.prog ops Q (o :: rest) a w := by
  refine wpList_plain hgd fun K hK => ?_
  unfold Oper.wp execOp
  simp only [ho, resolve, invoke, builtin, Sem.run_bind, Sem.run_pure, Result.andThen_ok, List.map_toArray, List.map_cons, List.map_nil, hs, hx, hr]
  exact hK _ _ h

theorem infoD : (Try.prog.info? 25).map (fun i => (i.zero, i.size, i.bytes)) = some (some (.agg #[.int .i64 0, .int .i64 0]), 2, 16) := by kernel_rfl
theorem undV : Try.prog.underlying 23 = some (.slice 25) := Try.underlying23

/-- append(v, d) of a Dot -/
theorem append_dot (w : World) (ty : TypeId) (N : Nat) (v : Value) (l : List (Int × Int)) (x y : Int) (h : w.ownsRow N 25 2 v l.length (flat encI l)) (hN : N ≤ w.heap.size) (hl : l.length ≤ 1000000) :
    ∃ v' w', (Builtin.append_ #[23, 23] ty #[v, .slice (some ⟨w.heap.size, 0, none⟩) 1 1]).run Try.prog (w.alloc (.cells #[.int .i64 x, .int .i64 y] 25)) = .ok v' w' ∧ w'.ownsRow N 25 2 v' (l ++ [(x, y)]).length (flat encI (l ++ [(x, y)])) ∧ (w.alloc (.cells #[.int .i64 x, .int .i64 y] 25)).grownBy w' v.ownBlock ∧ (v'.ownBlock = v.ownBlock ∨ v'.ownBlock = some (w.heap.size + 1)) := by
  obtain ⟨i0, hi, hz0, hz1, hz2⟩ := info_parts infoD
  have hbx := Bx.new w 25 #[.int .i64 x, .int .i64 y]
  obtain ⟨v', w', h1, h2, h3, h4, h5⟩ := run_append_own_at (P := Try.prog) (w.alloc (.cells #[.int .i64 x, .int .i64 y] 25)) N 23 ty 25 i0 _ 2 16 undV hi hz0 hz1 hz2 rfl (by decide) v l.length _ (h.alloc _) ⟨w.heap.size, 0, none⟩ 1 1 [.int .i64 x, .int .i64 y] rfl (fun j u hu => by
    rw [Addr.add_lit, Nat.zero_add]
    exact hbx.cell j u (by rw [← hu]; simp)) (fun u hu => by simp at hu; rcases hu with rfl | rfl <;> rfl) (by unfold maxLen; omega) (by omega) (by simp; omega)
  refine ⟨v', w', h1, by rw [flat_append]; simpa [show flat encI [(x, y)] = [.int .i64 x, .int .i64 y] from rfl] using h2, h3, ?_⟩
  simpa using h5

/-- seventeen numbers -/
def arr (s : Nat → Int) : Array Value := ((List.range 17).map fun i => Value.int .i64 (s i)).toArray
theorem arr_size (s : Nat → Int) : (arr s).size = 17 := by simp [arr]
theorem arr_get (s : Nat → Int) (i : Nat) (h : i < 17) : (arr s)[i]? = some (.int .i64 (s i)) := by simp [arr, h]
theorem arr_set (s : Nat → Int) (i : Nat) (x : Int) (h : i < 17) : (arr s).setIfInBounds i (.int .i64 x) = arr (put1 s i x) := by
  apply Array.ext
  · simp [arr]
  · intro j h1 h2
    simp [arr] at h2
    simp only [Array.getElem_setIfInBounds, arr, put1]
    by_cases hj : j = i
    · subst hj; simp
    · simp [hj, Ne.symm hj]
theorem arr_zero : arr (fun _ => 0) = #[.int .i64 0, .int .i64 0, .int .i64 0, .int .i64 0, .int .i64 0, .int .i64 0, .int .i64 0, .int .i64 0, .int .i64 0, .int .i64 0, .int .i64 0, .int .i64 0, .int .i64 0, .int .i64 0, .int .i64 0, .int .i64 0, .int .i64 0] := rfl

theorem eqA (s t : Nat → Int) (w : World) : (binOp .eql 69 (.agg (arr s)) (.agg (arr t))).run Try.prog w = .ok (.bool ((List.range 17).all fun i => s i == t i)) w := by
  have hsz : ∀ w, (sizeOf 3).run Try.prog w = .ok 1 w := fun w => Try.sizeOf3 w
  have main : (Op.equalIn 10000 69 (.agg (arr s)) (.agg (arr t))).run Try.prog w = .ok ((List.range 17).all fun i => s i == t i) w := by
    rw [show (10000 : Nat) = 9998 + 2 from rfl, Op.equalIn, List.range_eq_range']
    simp only [Sem.run_bind, run_underlying Try.underlying69, Result.andThen_ok, hsz, Std.Legacy.Range.forIn_eq_forIn_range', Std.Legacy.Range.size, Nat.sub_zero, Nat.add_sub_cancel, Nat.div_one]
    have hl : ∀ i ∈ List.range' 0 17 1, i < 17 := fun i hi => by simpa using (List.mem_range'_1.1 hi).2
    generalize List.range' 0 17 1 = l at hl ⊢
    induction l with
    | nil => simp
    | cons i l ih =>
      have hi : i < 17 := hl i (by simp)
      have px : ∀ u : Nat → Int, (part 3 (arr u) (i * 1)).run Try.prog w = .ok (.int .i64 (u i)) w := fun u => by
        have e := arr_get u i hi
        simp [part, isAgg, run_underlying Try.underlying3, e]
      have pe : (Op.equalIn (9998 + 1) 3 (.int .i64 (s i)) (.int .i64 (t i))).run Try.prog w = .ok (s i == t i) w := run_equalIn_int w 9998 3 .i64 .i64 _ _ Try.underlying3
      simp only [List.forIn_cons, Sem.run_bind, px, pe, Result.andThen_ok, List.all_cons]
      cases hb : (s i == t i)
      · simp
      · simp only [Bool.not_true, Bool.false_eq_true, if_false, Sem.run_pure, Result.andThen_ok, Bool.true_and]
        exact ih fun j hj => hl j (by simp [hj])
  rw [run_eql_struct, main]
  rfl

theorem eqD (t s t' s' : Int) (w : World) : (binOp .eql 25 (.agg #[.int .i64 t, .int .i64 s]) (.agg #[.int .i64 t', .int .i64 s'])).run Try.prog w = .ok (.bool (decide ((t, s) = (t', s')))) w := by
  by_cases h1 : t = t'
  · subst h1
    by_cases h2 : s = s'
    · subst h2
      simp [go_sem]
    · have hd : decide ((t, s) = (t, s')) = false := by rw [decide_eq_false_iff_not]; intro e; exact h2 (by simpa using e)
      rw [hd]
      simp [go_sem, h2]
  · have hd : decide ((t, s) = (t', s')) = false := by rw [decide_eq_false_iff_not]; intro e; exact h1 (by simp at e; exact e.1)
    rw [hd]
    simp [go_sem, h1]
theorem neqD (t s t' s' : Int) (w : World) : (binOp .neq 25 (.agg #[.int .i64 t, .int .i64 s]) (.agg #[.int .i64 t', .int .i64 s'])).run Try.prog w = .ok (.bool (!decide ((t, s) = (t', s')))) w := by
  by_cases h1 : t = t'
  · subst h1
    by_cases h2 : s = s'
    · subst h2
      simp [go_sem]
    · have hd : decide ((t, s) = (t, s')) = false := by rw [decide_eq_false_iff_not]; intro e; exact h2 (by simpa using e)
      rw [hd]
      simp [go_sem, h2]
  · have hd : decide ((t, s) = (t', s')) = false := by rw [decide_eq_false_iff_not]; intro e; exact h1 (by simp at e; exact e.1)
    rw [hd]
    simp [go_sem, h1]

end Go.Proofs.Ytmjhkgpbemjjkaa
