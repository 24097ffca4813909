/-
  slices.Sorted, Compact, DeleteFunc; others.
-/
import Derived.Test.YtmglnaldpcmakaaZFF6
import Derived.Lib.OwnBridge
set_option linter.unusedSimpArgs false
set_option linter.unusedVariables false
namespace Go.Proofs.Ytmglnaldpcmakaa
open Go.RowKit Go.Lib Go.Shelf

theorem below_grow {B : Nat} {w0 w : World} (h : Below B w0 w) (os : Array Obj) (hB : B ≤ w.heap.size) : Below B w0 (Sort.grow w os) :=
  ⟨h.os, h.tape, h.output, by show w0.heap.size ≤ (w.heap ++ os).size; have := h.size; rw [Array.size_append]; omega, fun k hk => by
    rw [← h.block k hk]
    exact Sort.heap_grow_old w os (by omega)⟩
theorem own_grow {W : World} {B : Nat} {v : Value} {l : List Int} (h : OwN W B v l) (os : Array Obj) : OwN (Sort.grow W os) B v l :=
  owns_kp (N := fun _ => False) h (Kp.of_below (below_grow (Below.refl W.heap.size W) os (Nat.le_refl _))) (fun _ _ e => e)
theorem OwN.nil {W : World} {B : Nat} {l : List Int} (h : OwN W B (.slice none 0 0) l) : l = [] := by
  have := h.form
  obtain ⟨a, c, e⟩ := this
  simp at e
  exact List.eq_nil_of_length_eq_zero e.2.1.symm
theorem OwN.nilv {W : World} {B : Nat} {a : Option Addr} {c : Nat} (h : OwN W B (.slice a 0 c) []) : True := trivial

/-- slices.Sort of one's own -/
theorem Sort_in {B : Nat} {w0 : World} (w : World) (v : Value) (l : List Int) (h : OwN w B v l) (hb : Below B w0 w) (hl : l.length ≤ 1000000) :
    Calls Try.prog 35 #[v] w fun e W => e = .returned (.tuple #[]) ∧ OwN W B v (l.mergeSort fun x y => decide (x ≤ y)) ∧ Below B w0 W := by
  by_cases h0 : l = []
  · subst h0
    obtain ⟨a, c, rfl⟩ := h.form
    refine (Any.slices_Sort_int_none shSort a c w).mono ?_
    rintro e W ⟨rfl, rfl⟩
    exact ⟨rfl, by simpa using h, hb⟩
  · have hv : v ≠ .slice none 0 0 := fun e => h0 (by subst e; exact h.nil)
    obtain ⟨g, cap, rfl, hg1, hg2, hg3, hg4, hg5, hH⟩ := holds_of_ownsRow (enc := Value.int .i64) h hv
    refine (Any.slices_Sort_int shSort g 0 cap l w hH hg2 (by omega)).mono ?_
    rintro e W ⟨rfl, n, os, rfl⟩
    refine ⟨rfl, own_grow ?_ os, below_grow (below_putRow hb hg1) os ?_⟩
    · have q := ownsRow_putRow (q := n) (k := l.length) h (ys := l.mergeSort fun x y => decide (x ≤ y)) (by simp) (Nat.le_refl _)
      rw [List.take_of_length_le (by simp)] at q
      unfold OwN
      rw [List.length_mergeSort]
      exact q
    · show B ≤ (Sort.putRow _ _ _ _ _).heap.size
      simp [Sort.putRow, Sort.mapBlock, Sort.ahead]
      omega


theorem compact_mem (zs : List Int) (x : Int) : x ∈ Lib.compact zs ↔ x ∈ zs := by
  unfold Lib.compact Lib.compactUpTo
  constructor
  · intro h
    obtain ⟨j, hj, rfl⟩ := List.mem_map.1 h
    have hj' : j < zs.length := by simpa using (List.mem_filter.1 hj).1
    rw [getElem!_pos zs.toArray j (by simpa using hj')]
    simp
  · intro h
    have key : ∀ j, j < zs.length → zs.toArray[j]! ∈ ((List.range zs.length).filter (Lib.keeps zs.toArray)).map (zs.toArray[·]!) := by
      intro j
      induction j with
      | zero => intro hj; exact List.mem_map.2 ⟨0, List.mem_filter.2 ⟨List.mem_range.2 hj, by simp [Lib.keeps]⟩, rfl⟩
      | succ j ih =>
        intro hj
        cases hk : Lib.keeps zs.toArray (j + 1) with
        | true => exact List.mem_map.2 ⟨j + 1, List.mem_filter.2 ⟨List.mem_range.2 hj, hk⟩, rfl⟩
        | false =>
          have e : zs.toArray[j + 1]! = zs.toArray[j]! := by
            unfold Lib.keeps at hk
            simpa using hk
          rw [e]
          exact ih (by omega)
    obtain ⟨j, hj, rfl⟩ := List.getElem_of_mem h
    have := key j hj
    rwa [getElem!_pos zs.toArray j (by simpa using hj), List.getElem_toArray] at this

/-- slices.Compact of one's own -/
theorem Compact_in {B : Nat} {w0 : World} (w : World) (v : Value) (l : List Int) (h : OwN w B v l) (hb : Below B w0 w) (hl : l.length ≤ 1000000) :
    Calls Try.prog 22 #[v] w fun e W => ∃ v', e = .returned v' ∧ OwN W B v' (Lib.compact l) ∧ Below B w0 W := by
  by_cases h0 : l = []
  · subst h0
    obtain ⟨a, c, rfl⟩ := h.form
    refine (Any.slices_Compact_int_empty shCompact a c w).mono ?_
    rintro e W ⟨rfl, rfl⟩
    exact ⟨_, rfl, h, hb⟩
  · have hv : v ≠ .slice none 0 0 := fun e => h0 (by subst e; exact h.nil)
    obtain ⟨g, cap, rfl, hg1, hg2, hg3, hg4, hg5, hH⟩ := holds_of_ownsRow (enc := Value.int .i64) h hv
    refine (Any.slices_Compact_int shCompact g 0 cap l w hH (by omega) hg3).mono ?_
    rintro e W ⟨rfl, q, rfl⟩
    have hc : (Lib.compact l).length ≤ l.length := by
      unfold Lib.compact Lib.compactUpTo
      rw [List.length_map]
      have := List.length_filter_le (Lib.keeps l.toArray) (List.range l.length)
      rw [List.length_range] at this
      exact this
    refine ⟨_, rfl, ?_, below_putRow hb hg1⟩
    have k := ownsRow_putRow (q := q) (k := (Lib.compact l).length) h (ys := Lib.compact l ++ List.replicate (l.length - (Lib.compact l).length) 0) (by simp; omega) hc
    rw [List.take_left] at k
    exact k

theorem Sorted_in (w : World) (Bs : Nat) (a : Option Addr) (c : Nat) (zs : List Int) (hz : zs.length ≤ 1000000) (hS : SqS Bs a c zs w) :
    Calls Try.prog 23 #[sqV Bs] w fun e W => ∃ v', e = .returned v' ∧ OwN W w.heap.size v' (zs.mergeSort fun x y => decide (x ≤ y)) ∧ Below w.heap.size w W := by
  have H := hide (Collect_in w Bs a c zs hz hS)
  unfold sqV at H ⊢
  go_enter Try.func23, Try.ntmps23
  go_wp2_with fail
  refine (unhide H).mono ?_
  rintro e W1 ⟨v, rfl, ho, hb⟩
  have HS := hide (Sort_in W1 v zs ho hb hz)
  obtain ⟨av, cv, rfl⟩ := ho.form
  clear ho hb H
  go_wp2_with fail
  refine (unhide HS).mono ?_
  rintro e W2 ⟨rfl, ho, hb⟩
  replace ho := hide ho
  replace hb := hide hb
  go_wp2
  go_ret
  exact ⟨_, rfl, unhide ho, unhide hb⟩

end Go.Proofs.Ytmglnaldpcmakaa
