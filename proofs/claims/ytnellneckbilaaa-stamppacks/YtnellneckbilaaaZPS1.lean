/-
  The document's own sorted.
-/
import Derived.Test.YtnellneckbilaaaZPK3
import Derived.Test.YtnellneckbilaaaZS1r
import Derived.Shelf.SlSortCmp.QuietGrown
set_option linter.unusedSimpArgs false
set_option linter.unusedVariables false
namespace Go.Proofs.Ytnellneckbilaaa
open Go.RowKit Go.Lib Go.Sort

theorem flat_setI (l : List (Int × Int)) (k : Nat) (t s : Int) (h : k < l.length) : ((flat encI l).set (k * 2) (.int .i64 t)).set (k * 2 + 1) (.int .i64 s) = flat encI (l.set k (t, s)) := by
  refine List.ext_getElem? fun j => ?_
  have hl := flat_len encI_len l
  by_cases hj : j < l.length * 2
  · have h3 : j / 2 < l.length := by omega
    have e0 := flat_get encI_len l (j / 2) (j % 2) l[j / 2] (List.getElem?_eq_getElem h3) (by omega)
    rw [show j / 2 * 2 + j % 2 = j by omega] at e0
    by_cases hjk : k = j / 2
    · have e1 := flat_get encI_len (l.set k (t, s)) (j / 2) (j % 2) (t, s) (by rw [← hjk]; exact List.getElem?_set_self h) (by omega)
      rw [show j / 2 * 2 + j % 2 = j by omega] at e1
      rw [e1]
      by_cases h2 : j % 2 = 1
      · rw [show k * 2 + 1 = j by omega, List.getElem?_set_self (by rw [List.length_set]; omega), h2]
        rfl
      · rw [List.getElem?_set_ne (by omega), show k * 2 = j by omega, List.getElem?_set_self (by omega), show j % 2 = 0 by omega]
        rfl
    · have e1 := flat_get encI_len (l.set k (t, s)) (j / 2) (j % 2) l[j / 2] (by rw [List.getElem?_set_ne hjk]; exact List.getElem?_eq_getElem h3) (by omega)
      rw [show j / 2 * 2 + j % 2 = j by omega] at e1
      rw [e1, List.getElem?_set_ne (by omega), List.getElem?_set_ne (by omega), e0]
  · rw [List.getElem?_eq_none (by rw [List.length_set, List.length_set]; omega), List.getElem?_eq_none (by rw [flat_len encI_len, List.length_set]; omega)]

/-- an identifier is put into a row of one's own -/
theorem owns_setI {W : World} {B g cap : Nat} {l : List (Int × Int)} (h : W.ownsRow B 23 2 (.slice (some ⟨g, 0, none⟩) l.length cap) l.length (flat encI l)) (k : Nat) (t s : Int) (hk : k < l.length) :
    ((W.setCell ⟨g, k * 2, none⟩ (.int .i64 t)).setCell ⟨g, k * 2 + 1, none⟩ (.int .i64 s)).ownsRow B 23 2 (.slice (some ⟨g, 0, none⟩) l.length cap) l.length (flat encI (l.set k (t, s))) ∧
    W.grownBy ((W.setCell ⟨g, k * 2, none⟩ (.int .i64 t)).setCell ⟨g, k * 2 + 1, none⟩ (.int .i64 s)) (some g) := by
  obtain ⟨o1, g1⟩ := h.stored (k * 2) (.int .i64 t)
  obtain ⟨o2, g2⟩ := o1.stored (k * 2 + 1) (.int .i64 s)
  rw [flat_setI l k t s hk] at o2
  exact ⟨o2, g1.trans g2⟩

theorem append_id (w : World) (ty : TypeId) (N : Nat) (v : Value) (l : List (Int × Int)) (t s : Int) (h : w.ownsRow N 23 2 v l.length (flat encI l)) (hN : N ≤ w.heap.size) (hl : l.length ≤ 1000000) :
    ∃ v' w', (Builtin.append_ #[28, 28] ty #[v, .slice (some ⟨w.heap.size, 0, none⟩) 1 1]).run Try.prog (w.alloc (.cells #[.int .i64 t, .int .i64 s] 23)) = .ok v' w' ∧ w'.ownsRow N 23 2 v' (l ++ [(t, s)]).length (flat encI (l ++ [(t, s)])) ∧ (w.alloc (.cells #[.int .i64 t, .int .i64 s] 23)).grownBy w' v.ownBlock := by
  obtain ⟨i0, hi, hz0, hz1, hz2⟩ := info_parts infoI
  have hbx := Bx.new w 23 #[.int .i64 t, .int .i64 s]
  obtain ⟨v', w', h1, h2, h3, _⟩ := run_append_own (P := Try.prog) (w.alloc (.cells #[.int .i64 t, .int .i64 s] 23)) N 28 ty 23 i0 _ 2 16 Try.underlying28 hi hz0 hz1 hz2 rfl (by decide) v l.length _ (h.alloc _) ⟨w.heap.size, 0, none⟩ 1 1 [.int .i64 t, .int .i64 s] rfl (fun j u hu => by
    rw [Addr.add_lit, Nat.zero_add]
    exact hbx.cell j u (by rw [← hu]; simp)) (fun u hu => by simp at hu; rcases hu with rfl | rfl <;> rfl) (by unfold maxLen; omega) (by omega) (by simp; omega)
  exact ⟨v', w', h1, by rw [flat_append]; simpa [show flat encI [(t, s)] = [.int .i64 t, .int .i64 s] from rfl] using h2, h3⟩

/-- the row while it is shifted -/
def shf (acc : List (Int × Int)) (j : Nat) : List (Int × Int) := acc.take j ++ (((acc ++ [(0, 0)])[j]?).getD (0, 0)) :: acc.drop j
theorem shf_len (acc : List (Int × Int)) (j : Nat) (h : j ≤ acc.length) : (shf acc j).length = acc.length + 1 := by
  unfold shf
  simp
  omega
theorem shf_all (acc : List (Int × Int)) : shf acc acc.length = acc ++ [(0, 0)] := by
  unfold shf
  simp
theorem shf_get (acc : List (Int × Int)) (j : Nat) (h : j < acc.length) : (shf acc (j + 1))[j]? = acc[j]? := by
  unfold shf
  rw [List.getElem?_append_left (by simp; omega), List.getElem?_take, if_pos (by omega)]
theorem shf_step (acc : List (Int × Int)) (j : Nat) (y : Int × Int) (h : acc[j]? = some y) : (shf acc (j + 1)).set (j + 1) y = shf acc j := by
  have hj := (List.getElem?_eq_some_iff.1 h).1
  unfold shf
  rw [List.set_append_right _ _ (by simp; omega), show (j + 1) - (acc.take (j + 1)).length = 0 by simp; omega, List.set_cons_zero]
  rw [List.getElem?_append_left hj, h]
  rw [List.take_add_one, h, List.drop_eq_getElem_cons hj]
  have : acc[j] = y := by rw [List.getElem?_eq_getElem hj] at h; simpa using h
  rw [this]
  simp
theorem shf_put (acc : List (Int × Int)) (k : Nat) (x : Int × Int) (h : k ≤ acc.length) : (shf acc k).set k x = acc.take k ++ x :: acc.drop k := by
  unfold shf
  rw [List.set_append_right _ _ (by simp; omega), show k - (acc.take k).length = 0 by simp; omega, List.set_cons_zero]

/-- where it belongs -/
theorem ins_ok {acc : List (Int × Int)} (hs : acc.Pairwise lexLt) {k : Nat} {x : Int × Int} (h1 : ∀ j y, j < k → acc[j]? = some y → lexLt y x) (h2 : ∀ j y, k ≤ j → acc[j]? = some y → lexLt x y) : (acc.take k ++ x :: acc.drop k).Pairwise lexLt ∧ ∀ y, y ∈ acc.take k ++ x :: acc.drop k ↔ y ∈ acc ∨ y = x := by
  have m1 : ∀ y ∈ acc.take k, lexLt y x := fun y hy => by
    obtain ⟨j, hj⟩ := List.getElem?_of_mem hy
    rw [List.getElem?_take] at hj
    split at hj
    · exact h1 j y (by assumption) hj
    · cases hj
  have m2 : ∀ y ∈ acc.drop k, lexLt x y := fun y hy => by
    obtain ⟨j, hj⟩ := List.getElem?_of_mem hy
    rw [List.getElem?_drop] at hj
    exact h2 (k + j) y (by omega) hj
  constructor
  · refine List.pairwise_append.2 ⟨hs.sublist (List.take_sublist _ _), List.pairwise_cons.2 ⟨m2, hs.sublist (List.drop_sublist _ _)⟩, fun y hy z hz => ?_⟩
    rcases List.mem_cons.1 hz with rfl | hz
    · exact m1 y hy
    · exact lex_trans (m1 y hy) (m2 z hz)
  · intro y
    rw [List.mem_append, List.mem_cons]
    constructor
    · rintro (h | h | h)
      · exact .inl (List.mem_of_mem_take h)
      · exact .inr h
      · exact .inl (List.mem_of_mem_drop h)
    · rintro (h | h)
      · rw [← List.take_append_drop k acc] at h
        rcases List.mem_append.1 h with h | h
        · exact .inl h
        · exact .inr (.inr h)
      · exact .inr (.inl h)

/-- the row that is sorted so far -/
structure SoFar (l : List (Int × Int)) (w W : World) (i : Nat) (v : Value) (acc : List (Int × Int)) : Prop where
  strict : acc.Pairwise lexLt
  mem : ∀ x, x ∈ acc ↔ x ∈ l.take i ∧ isI x = true
  row : W.ownsRow w.heap.size 23 2 v acc.length (flat encI acc)
  bel : Below w.heap.size w W
  len : acc.length ≤ i
theorem SoFar.skip {l : List (Int × Int)} {w W W' : World} {i : Nat} {v : Value} {acc : List (Int × Int)} (h : SoFar l w W i v acc) {x : Int × Int} (hx : l[i]? = some x) (hb : Below W.heap.size W W') (hs : isI x = false ∨ x ∈ acc) : SoFar l w W' (i + 1) v acc := by
  refine ⟨h.strict, fun y => ?_, owns_kp (N := fun _ => False) h.row (Kp.of_below hb) (fun _ _ h => h), bnext h.bel hb, by have := h.len; omega⟩
  rw [h.mem y, List.take_add_one, hx]
  simp only [Option.toList_some, List.mem_append, List.mem_singleton]
  constructor
  · rintro ⟨h1, h2⟩; exact ⟨.inl h1, h2⟩
  · rintro ⟨h1 | h1, h2⟩
    · exact ⟨h1, h2⟩
    · subst h1
      rcases hs with hs | hs
      · rw [hs] at h2; cases h2
      · exact (h.mem y).1 hs
theorem SoFar.put {l : List (Int × Int)} {w W W' : World} {i k : Nat} {v v' : Value} {acc : List (Int × Int)} (h : SoFar l w W i v acc) {x : Int × Int} (hx : l[i]? = some x) (hi : isI x = true) (h1 : ∀ j y, j < k → acc[j]? = some y → lexLt y x) (h2 : ∀ j y, k ≤ j → acc[j]? = some y → lexLt x y)
    (hr : W'.ownsRow w.heap.size 23 2 v' (acc.take k ++ x :: acc.drop k).length (flat encI (acc.take k ++ x :: acc.drop k))) (hb : Below w.heap.size w W') : SoFar l w W' (i + 1) v' (acc.take k ++ x :: acc.drop k) := by
  obtain ⟨q1, q2⟩ := ins_ok h.strict h1 h2
  refine ⟨q1, fun y => ?_, hr, hb, by have := h.len; simp; omega⟩
  rw [q2 y, h.mem y, List.take_add_one, hx]
  simp only [Option.toList_some, List.mem_append, List.mem_singleton]
  constructor
  · rintro (⟨a, b⟩ | rfl)
    · exact ⟨.inl a, b⟩
    · exact ⟨.inr rfl, hi⟩
  · rintro ⟨a | a, b⟩
    · exact .inl ⟨a, b⟩
    · exact .inr a

end Go.Proofs.Ytnellneckbilaaa
