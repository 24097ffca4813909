/-
  Lists of Dots: what they say of each site, the vector of that; there and back. Pure.
-/
import Derived.Test.YtkffonoifbaifaaGreatZB0
import Derived.Maps.AppendAt

set_option linter.unusedSimpArgs false
set_option linter.unusedVariables false
namespace Go.Proofs.YtkffonoifbaifaaGreat
open Go.RowKit Go.Lib

/-- does a Dot say something? -/
def okD (d : Int × Int) : Bool := decide (1 ≤ d.1) && decide (d.1 ≤ 16) && decide (1 ≤ d.2) && decide (d.2 ≤ 2147483647)
theorem okD_iff (d : Int × Int) : okD d = true ↔ (1 ≤ d.1 ∧ d.1 ≤ 16) ∧ 1 ≤ d.2 ∧ d.2 ≤ 2147483647 := by
  unfold okD; simp [and_assoc]

/-- one place is set -/
def put1 (s : Nat → Int) (i : Nat) (x : Int) : Nat → Int := fun j => if j = i then x else s j
theorem put1_self (s : Nat → Int) (i : Nat) (x : Int) : put1 s i x i = x := by simp [put1]
theorem put1_other (s : Nat → Int) (i j : Nat) (x : Int) (h : j ≠ i) : put1 s i x j = s j := by simp [put1, h]

/-- what a Dot more says -/
def syF (s : Nat → Int) (d : Int × Int) : Nat → Int := if okD d = true then put1 s d.1.toNat (max (s d.1.toNat) d.2) else s
/-- what a list says -/
def sy (l : List (Int × Int)) : Nat → Int := l.foldl syF (fun _ => 0)
theorem sy_nil : sy [] = fun _ => 0 := rfl
theorem sy_snoc (l : List (Int × Int)) (d : Int × Int) : sy (l ++ [d]) = syF (sy l) d := by simp [sy]
theorem sy_append (l m : List (Int × Int)) : sy (l ++ m) = m.foldl syF (sy l) := by simp [sy]

/-- a row of sites: from 0 on, none for what is no site -/
structure Good (s : Nat → Int) : Prop where
  lo : ∀ i, 0 ≤ s i
  hi : ∀ i, s i ≤ 2147483647
  zero : s 0 = 0
  over : ∀ i, 17 ≤ i → s i = 0
theorem Good.none : Good (fun _ => 0) := ⟨fun _ => by omega, fun _ => by omega, rfl, fun _ _ => rfl⟩
theorem Good.put {s : Nat → Int} (h : Good s) {i : Nat} {x : Int} (h1 : 1 ≤ i) (h2 : i ≤ 16) (h3 : 0 ≤ x) (h4 : x ≤ 2147483647) : Good (put1 s i x) := by
  refine ⟨fun j => ?_, fun j => ?_, ?_, fun j hj => ?_⟩
  · unfold put1; have := h.lo j; split <;> omega
  · unfold put1; have := h.hi j; split <;> omega
  · rw [put1_other _ _ _ _ (by omega)]; exact h.zero
  · rw [put1_other _ _ _ _ (by omega)]; exact h.over j hj
theorem Good.step {s : Nat → Int} (h : Good s) (d : Int × Int) : Good (syF s d) := by
  unfold syF
  split
  · rename_i hd
    obtain ⟨⟨h1, h2⟩, h3, h4⟩ := (okD_iff d).1 hd
    have := h.hi d.1.toNat
    exact h.put (by omega) (by omega) (by omega) (by omega)
  · exact h
theorem Good.fold (m : List (Int × Int)) : ∀ {s : Nat → Int}, Good s → Good (m.foldl syF s) := by
  induction m with
  | nil => intro s h; exact h
  | cons d m ih => intro s h; exact ih (h.step d)
theorem sy_good (l : List (Int × Int)) : Good (sy l) := Good.fold l Good.none

/-- the vector of a row -/
def vecN (s : Nat → Int) (k : Nat) : List (Int × Int) := (List.range k).filterMap fun i => if 0 < s i then some ((i : Int), s i) else none
def vec (s : Nat → Int) : List (Int × Int) := vecN s 17
theorem vecN_zero (s : Nat → Int) : vecN s 0 = [] := rfl
theorem vecN_step (s : Nat → Int) (k : Nat) : vecN s (k + 1) = vecN s k ++ (if 0 < s k then [((k : Int), s k)] else []) := by
  unfold vecN
  rw [List.range_succ, List.filterMap_append]
  congr 1
  by_cases h : 0 < s k <;> simp [h]
theorem vecN_pos {s : Nat → Int} {k : Nat} (h : 0 < s k) : vecN s (k + 1) = vecN s k ++ [((k : Int), s k)] := by rw [vecN_step, if_pos h]
theorem vecN_neg {s : Nat → Int} {k : Nat} (h : ¬ 0 < s k) : vecN s (k + 1) = vecN s k := by rw [vecN_step, if_neg h, List.append_nil]
theorem vecN_len (s : Nat → Int) : ∀ k, (vecN s k).length ≤ k
  | 0 => by simp [vecN]
  | k + 1 => by
    have := vecN_len s k
    rw [vecN_step]
    split <;> simp <;> omega
theorem vec_len (s : Nat → Int) : (vec s).length ≤ 17 := vecN_len s 17
theorem vecN_mem {s : Nat → Int} {k : Nat} {d : Int × Int} (h : d ∈ vecN s k) : ∃ i, i < k ∧ 0 < s i ∧ d = ((i : Int), s i) := by
  unfold vecN at h
  obtain ⟨i, hi, e⟩ := List.mem_filterMap.1 h
  by_cases hs : 0 < s i
  · rw [if_pos hs] at e
    exact ⟨i, List.mem_range.1 hi, hs, (Option.some.inj e).symm⟩
  · rw [if_neg hs] at e; cases e

/-- what the vector of a row says is the row -/
theorem sy_vecN {s : Nat → Int} (h : Good s) : ∀ k, k ≤ 17 → ∀ j, sy (vecN s k) j = if j < k then s j else 0
  | 0, _, j => by simp [vecN, sy]
  | k + 1, hk, j => by
    have ih := sy_vecN h k (by omega)
    by_cases hs : 0 < s k
    · have h0 : k ≠ 0 := fun e => by rw [e, h.zero] at hs; omega
      rw [vecN_pos hs, sy_snoc]
      have hok : okD ((k : Int), s k) = true := (okD_iff _).2 ⟨⟨by show (1 : Int) ≤ (k : Int); omega, by show (k : Int) ≤ 16; omega⟩, by show 1 ≤ s k; omega, h.hi k⟩
      unfold syF
      rw [if_pos hok]
      show put1 _ (k : Int).toNat (max (sy (vecN s k) (k : Int).toNat) (s k)) j = _
      rw [Int.toNat_natCast, ih k, if_neg (by omega)]
      unfold put1
      by_cases hj : j = k
      · subst hj; simp; omega
      · rw [if_neg hj, ih j]
        by_cases h1 : j < k
        · rw [if_pos h1, if_pos (by omega)]
        · rw [if_neg h1, if_neg (by omega)]
    · rw [vecN_neg hs, ih j]
      by_cases h1 : j < k
      · rw [if_pos h1, if_pos (by omega)]
      · rw [if_neg h1]
        by_cases h2 : j = k
        · subst h2; rw [if_pos (by omega)]; have := h.lo j; omega
        · rw [if_neg (by omega)]
theorem sy_vec {s : Nat → Int} (h : Good s) : sy (vec s) = s := by
  funext j
  unfold vec
  rw [sy_vecN h 17 (by omega) j]
  split
  · rfl
  · rw [h.over j (by omega)]

/-- the greater, the lesser of two rows -/
def mrg (s t : Nat → Int) : Nat → Int := fun i => max (s i) (t i)
def lst (s t : Nat → Int) : Nat → Int := fun i => min (s i) (t i)
theorem Good.mrg {s t : Nat → Int} (h : Good s) (k : Good t) : Good (mrg s t) := by
  unfold Go.Proofs.YtkffonoifbaifaaGreat.mrg
  exact ⟨fun i => by have := h.lo i; have := k.lo i; show 0 ≤ max (s i) (t i); omega, fun i => by have := h.hi i; have := k.hi i; show max (s i) (t i) ≤ _; omega, by show max (s 0) (t 0) = 0; rw [h.zero, k.zero]; rfl, fun i hi => by show max (s i) (t i) = 0; rw [h.over i hi, k.over i hi]; rfl⟩
theorem Good.lst {s t : Nat → Int} (h : Good s) (k : Good t) : Good (lst s t) := by
  unfold Go.Proofs.YtkffonoifbaifaaGreat.lst
  exact ⟨fun i => by have := h.lo i; have := k.lo i; show 0 ≤ min (s i) (t i); omega, fun i => by have := h.hi i; have := k.hi i; show min (s i) (t i) ≤ _; omega, by show min (s 0) (t 0) = 0; rw [h.zero, k.zero]; rfl, fun i hi => by show min (s i) (t i) = 0; rw [h.over i hi, k.over i hi]; rfl⟩

/-- why a vector is none: 0 if it is one -/
def chkF (ahead : Int) : List (Int × Int) → Int
  | [] => 0
  | d :: l => if ¬ (1 ≤ d.1 ∧ d.1 ≤ 16) then 1 else if ¬ (1 ≤ d.2 ∧ d.2 ≤ 2147483647) then 6 else if d.1 ≤ ahead then 9 else chkF d.1 l
def chk (l : List (Int × Int)) : Int := chkF 0 l
theorem chkF_vecN (s : Nat → Int) (hg : Good s) : ∀ (m k : Nat) (ahead : Int), k + m = 17 → (0 < k → ahead < k) → ahead ≤ 0 ∨ ahead < k → chkF ahead (((List.range' k m).filterMap fun i => if 0 < s i then some ((i : Int), s i) else none)) = 0
  | 0, k, a, _, _, _ => by simp [chkF]
  | m + 1, k, a, h, h1, h2 => by
    rw [List.range'_succ, List.filterMap_cons]
    by_cases hs : 0 < s k
    · have h0 : k ≠ 0 := fun e => by rw [e, hg.zero] at hs; omega
      simp only [hs, if_true]
      rw [chkF, if_neg (by show ¬ ¬ ((1 : Int) ≤ (k : Int) ∧ (k : Int) ≤ 16); omega), if_neg (by show ¬ ¬ ((1 : Int) ≤ s k ∧ s k ≤ 2147483647); have := hg.hi k; omega), if_neg (by show ¬ (k : Int) ≤ a; have := h1 (by omega); omega)]
      exact chkF_vecN s hg m (k + 1) k (by omega) (fun _ => by omega) (.inr (by omega))
    · simp only [hs, if_false]
      exact chkF_vecN s hg m (k + 1) a (by omega) (fun _ => by rcases h2 with h2 | h2 <;> omega) (by omega)
theorem chk_vec {s : Nat → Int} (h : Good s) : chk (vec s) = 0 := by
  unfold chk vec vecN
  rw [List.range_eq_range']
  exact chkF_vecN s h 17 0 0 (by omega) (fun h => by omega) (.inl (by omega))

/-- how many there are -/
def sumN (s : Nat → Int) : Nat → Int
  | 0 => 0
  | k + 1 => sumN s k + s k
def sum (s : Nat → Int) : Int := sumN s 17
theorem sumN_in {s : Nat → Int} (h : Good s) : ∀ k : Nat, 0 ≤ sumN s k ∧ sumN s k ≤ (k : Int) * 2147483647
  | 0 => by simp [sumN]
  | k + 1 => by
    have ih := sumN_in h k
    have h1 := h.lo k
    have h2 := h.hi k
    rw [sumN]
    push_cast
    omega
theorem sumN_add (s t : Nat → Int) : ∀ k, sumN (mrg s t) k + sumN (lst s t) k = sumN s k + sumN t k
  | 0 => rfl
  | k + 1 => by
    have ih := sumN_add s t k
    simp only [sumN]
    have : mrg s t k + lst s t k = s k + t k := by unfold mrg lst; omega
    omega
theorem sumN_put {s : Nat → Int} (i : Nat) (x : Int) : ∀ k, sumN (put1 s i x) k = sumN s k + if i < k then x - s i else 0
  | 0 => by simp [sumN]
  | k + 1 => by
    have ih := sumN_put (s := s) i x k
    simp only [sumN]
    rw [ih]
    by_cases h : k = i
    · subst h; rw [put1_self, if_neg (by omega), if_pos (by omega)]; omega
    · rw [put1_other _ _ _ _ h]
      by_cases h2 : i < k
      · rw [if_pos h2, if_pos (by omega)]; omega
      · rw [if_neg h2, if_neg (by omega)]; omega

/-- has all that another has -/
def cov (s t : Nat → Int) : Bool := (List.range 17).all fun i => decide (t i ≤ s i)
theorem cov_iff {s t : Nat → Int} (h : Good s) (k : Good t) : cov s t = true ↔ ∀ i, t i ≤ s i := by
  unfold cov
  rw [List.all_eq_true]
  simp only [List.mem_range, decide_eq_true_eq]
  refine ⟨fun h' i => ?_, fun h' i _ => h' i⟩
  by_cases hi : i < 17
  · exact h' i hi
  · rw [k.over i (by omega)]; exact h.lo i

theorem vec_inj {s t : Nat → Int} (h : Good s) (k : Good t) (e : vec s = vec t) : s = t := by rw [← sy_vec h, ← sy_vec k, e]

/-- the next of a site -/
def addV (l : List (Int × Int)) (d : Int × Int) : List (Int × Int) × Int :=
  if ¬ (1 ≤ d.1 ∧ d.1 ≤ 16) ∨ d.2 < 1 then ([], 1) else if 2147483647 < d.2 then ([], 17) else if d.2 - 1 ≠ sy l d.1.toNat then ([], 9) else (vec (put1 (sy l) d.1.toNat d.2), 0)
def getV (l : List (Int × Int)) (site : Int) : Int := if 1 ≤ site ∧ site ≤ 16 then sy l site.toNat else 0
def hasV (l : List (Int × Int)) (d : Int × Int) : Bool := decide (1 ≤ d.2 ∧ d.2 ≤ getV l d.1)

end Go.Proofs.YtkffonoifbaifaaGreat

/-
  Rows of Dots, and rows of seventeen numbers, in memory.
-/
set_option linter.unusedSimpArgs false
set_option linter.unusedVariables false
namespace Go.Proofs.YtkffonoifbaifaaGreat
open Go.RowKit Go.Lib

def encI (x : Int × Int) : List Value := [.int .i64 x.1, .int .i64 x.2]
theorem encI_len (x : Int × Int) : (encI x).length = 2 := rfl
def in64 (n : Int) : Prop := -9223372036854775808 ≤ n ∧ n ≤ 9223372036854775807
def idIn (x : Int × Int) : Prop := in64 x.1 ∧ in64 x.2

/-- a row of Dots -/
def RI (W : World) (v : Value) (l : List (Int × Int)) : Prop := RC W v l.length (flat encI l)
theorem RI.below {W W' : World} {v : Value} {l : List (Int × Int)} (h : RI W v l) (hb : Below W.heap.size W W') : RI W' v l := RC.below h hb
theorem RI.at {W : World} {a : Option Addr} {n c : Nat} {l : List (Int × Int)} (h : RI W (.slice a n c) l) {i : Nat} {x : Int × Int} (hi : l[i]? = some x) : ∃ b off, a = some ⟨b, off, none⟩ ∧ b < W.heap.size ∧ W.cell? ⟨b, off + i * 2, none⟩ = some (.int .i64 x.1) ∧ W.cell? ⟨b, off + i * 2 + 1, none⟩ = some (.int .i64 x.2) := by
  have hl := (List.getElem?_eq_some_iff.1 hi).1
  rcases h with ⟨h0, _⟩ | ⟨b, off, cap, e, h1, h2, hc⟩
  · omega
  · simp at e
    obtain ⟨rfl, _⟩ := e
    have f := fun q (hq : q < 2) v (hv : (encI x)[q]? = some v) => hc (i * 2 + q) v ((flat_get encI_len l i q x hi hq).trans hv)
    exact ⟨b, off, rfl, h2, f 0 (by omega) _ rfl, f 1 (by omega) _ rfl⟩
theorem RI.form {W : World} {v : Value} {l : List (Int × Int)} (h : RI W v l) : ∃ a c, v = .slice a l.length c := RC.form h
theorem RI.take {W : World} {a : Option Addr} {c : Nat} {l m : List (Int × Int)} (h : RI W (.slice a (l ++ m).length c) (l ++ m)) : RI W (.slice a l.length c) l := by
  rcases h with ⟨h0, _⟩ | ⟨b, off, cap, e, h1, h2, hc⟩
  · exact .inl ⟨by simp at h0; simp [h0.1], _, _, by simp at h0; simp [h0.1]; exact ⟨rfl, rfl⟩⟩
  · simp only [Value.slice.injEq] at e
    obtain ⟨rfl, _, rfl⟩ := e
    refine .inr ⟨b, off, c, rfl, by simp at h1; omega, h2, fun j x hx => hc j x ?_⟩
    rw [flat_append, List.getElem?_append_left (List.getElem?_eq_some_iff.1 hx).1]
    exact hx

theorem wpList_append_eq {w : World} {ops : Array Oper} {rest : List Oper} {o : Oper} {a : Act} {Q : Exit → Act → World → Prop} (hgd : o.guard = none) (s x : Operand) (t : TypeId)
    (ho : o.op = .call { callee := .builtin .append, args := #[s, x], argTypes := #[t, t] }) (v u v' : Value) (w' : World) (hs : a.eval s = v) (hx : a.eval x = u) (hr : (Builtin.append_ #[t, t] o.type #[v, u]).run Tryz.prog w = .ok v' w')
    (h : wpList Tryz.prog ops Q rest (a.put o.dst v') w') : wpList Tryz.prog ops Q (o :: rest) a w := by
  refine wpList_plain hgd fun K hK => ?_
  unfold Oper.wp execOp
  simp only [ho, resolve, invoke, builtin, Sem.run_bind, Sem.run_pure, Result.andThen_ok, List.map_toArray, List.map_cons, List.map_nil, hs, hx, hr]
  exact hK _ _ h

theorem infoD : (Tryz.prog.info? 51).map (fun i => (i.zero, i.size, i.bytes)) = some (some (.agg #[.int .i64 0, .int .i64 0]), 2, 16) := by kernel_rfl
theorem undV : Tryz.prog.underlying 32 = some (.slice 51) := Tryz.underlying32

/-- append(v, d) of a Dot -/
theorem append_dot (w : World) (ty : TypeId) (N : Nat) (v : Value) (l : List (Int × Int)) (x y : Int) (h : w.ownsRow N 51 2 v l.length (flat encI l)) (hN : N ≤ w.heap.size) (hl : l.length ≤ 1000000) :
    ∃ v' w', (Builtin.append_ #[32, 32] ty #[v, .slice (some ⟨w.heap.size, 0, none⟩) 1 1]).run Tryz.prog (w.alloc (.cells #[.int .i64 x, .int .i64 y] 51)) = .ok v' w' ∧ w'.ownsRow N 51 2 v' (l ++ [(x, y)]).length (flat encI (l ++ [(x, y)])) ∧ (w.alloc (.cells #[.int .i64 x, .int .i64 y] 51)).grownBy w' v.ownBlock ∧ (v'.ownBlock = v.ownBlock ∨ v'.ownBlock = some (w.heap.size + 1)) := by
  obtain ⟨i0, hi, hz0, hz1, hz2⟩ := info_parts infoD
  have hbx := Bx.new w 51 #[.int .i64 x, .int .i64 y]
  obtain ⟨v', w', h1, h2, h3, h4, h5⟩ := run_append_own_at (P := Tryz.prog) (w.alloc (.cells #[.int .i64 x, .int .i64 y] 51)) N 32 ty 51 i0 _ 2 16 undV hi hz0 hz1 hz2 rfl (by decide) v l.length _ (h.alloc _) ⟨w.heap.size, 0, none⟩ 1 1 [.int .i64 x, .int .i64 y] rfl (fun j u hu => by
    rw [Addr.add_lit, Nat.zero_add]
    exact hbx.cell j u (by rw [← hu]; simp)) (fun u hu => by simp at hu; rcases hu with rfl | rfl <;> rfl) (by unfold maxLen; omega) (by omega) (by simp; omega)
  refine ⟨v', w', h1, by rw [flat_append]; simpa [show flat encI [(x, y)] = [.int .i64 x, .int .i64 y] from rfl] using h2, h3, ?_⟩
  simpa using h5

/-- seventeen numbers -/
def arr (s : Nat → Int) : Array Value := ((List.range 17).map fun i => Value.int .i64 (s i)).toArray
theorem arr_size (s : Nat → Int) : (arr s).size = 17 := by simp [arr]
theorem arr_get (s : Nat → Int) (i : Nat) (h : i < 17) : (arr s)[i]? = some (.int .i64 (s i)) := by simp [arr, h]
theorem arr_set (s : Nat → Int) (i : Nat) (x : Int) (h : i < 17) : (arr s).setIfInBounds i (.int .i64 x) = arr (put1 s i x) := by
  apply Array.ext
  · simp [arr]
  · intro j h1 h2
    simp [arr] at h2
    simp only [Array.getElem_setIfInBounds, arr, put1]
    by_cases hj : j = i
    · subst hj; simp
    · simp [hj, Ne.symm hj]
theorem arr_zero : arr (fun _ => 0) = #[.int .i64 0, .int .i64 0, .int .i64 0, .int .i64 0, .int .i64 0, .int .i64 0, .int .i64 0, .int .i64 0, .int .i64 0, .int .i64 0, .int .i64 0, .int .i64 0, .int .i64 0, .int .i64 0, .int .i64 0, .int .i64 0, .int .i64 0] := rfl

theorem eqA (s t : Nat → Int) (w : World) : (binOp .eql 98 (.agg (arr s)) (.agg (arr t))).run Tryz.prog w = .ok (.bool ((List.range 17).all fun i => s i == t i)) w := by
  have hsz : ∀ w, (sizeOf 3).run Tryz.prog w = .ok 1 w := fun w => Tryz.sizeOf3 w
  have main : (Op.equalIn 10000 98 (.agg (arr s)) (.agg (arr t))).run Tryz.prog w = .ok ((List.range 17).all fun i => s i == t i) w := by
    rw [show (10000 : Nat) = 9998 + 2 from rfl, Op.equalIn, List.range_eq_range']
    simp only [Sem.run_bind, run_underlying Tryz.underlying98, Result.andThen_ok, hsz, Std.Legacy.Range.forIn_eq_forIn_range', Std.Legacy.Range.size, Nat.sub_zero, Nat.add_sub_cancel, Nat.div_one]
    have hl : ∀ i ∈ List.range' 0 17 1, i < 17 := fun i hi => by simpa using (List.mem_range'_1.1 hi).2
    generalize List.range' 0 17 1 = l at hl ⊢
    induction l with
    | nil => simp
    | cons i l ih =>
      have hi : i < 17 := hl i (by simp)
      have px : ∀ u : Nat → Int, (part 3 (arr u) (i * 1)).run Tryz.prog w = .ok (.int .i64 (u i)) w := fun u => by
        have e := arr_get u i hi
        simp [part, isAgg, run_underlying Tryz.underlying3, e]
      have pe : (Op.equalIn (9998 + 1) 3 (.int .i64 (s i)) (.int .i64 (t i))).run Tryz.prog w = .ok (s i == t i) w := run_equalIn_int w 9998 3 .i64 .i64 _ _ Tryz.underlying3
      simp only [List.forIn_cons, Sem.run_bind, px, pe, Result.andThen_ok, List.all_cons]
      cases hb : (s i == t i)
      · simp
      · simp only [Bool.not_true, Bool.false_eq_true, if_false, Sem.run_pure, Result.andThen_ok, Bool.true_and]
        exact ih fun j hj => hl j (by simp [hj])
  rw [run_eql_struct, main]
  rfl

theorem eqD (t s t' s' : Int) (w : World) : (binOp .eql 51 (.agg #[.int .i64 t, .int .i64 s]) (.agg #[.int .i64 t', .int .i64 s'])).run Tryz.prog w = .ok (.bool (decide ((t, s) = (t', s')))) w := by
  by_cases h1 : t = t'
  · subst h1
    by_cases h2 : s = s'
    · subst h2
      simp [go_sem]
    · have hd : decide ((t, s) = (t, s')) = false := by rw [decide_eq_false_iff_not]; intro e; exact h2 (by simpa using e)
      rw [hd]
      simp [go_sem, h2]
  · have hd : decide ((t, s) = (t', s')) = false := by rw [decide_eq_false_iff_not]; intro e; exact h1 (by simp at e; exact e.1)
    rw [hd]
    simp [go_sem, h1]
theorem neqD (t s t' s' : Int) (w : World) : (binOp .neq 51 (.agg #[.int .i64 t, .int .i64 s]) (.agg #[.int .i64 t', .int .i64 s'])).run Tryz.prog w = .ok (.bool (!decide ((t, s) = (t', s')))) w := by
  by_cases h1 : t = t'
  · subst h1
    by_cases h2 : s = s'
    · subst h2
      simp [go_sem]
    · have hd : decide ((t, s) = (t, s')) = false := by rw [decide_eq_false_iff_not]; intro e; exact h2 (by simpa using e)
      rw [hd]
      simp [go_sem, h2]
  · have hd : decide ((t, s) = (t', s')) = false := by rw [decide_eq_false_iff_not]; intro e; exact h1 (by simp at e; exact e.1)
    rw [hd]
    simp [go_sem, h1]

end Go.Proofs.YtkffonoifbaifaaGreat
