/-
  What the law's own parts answers: a text's clumps, and true.
-/
import Derived.Test.YtcagfapdhopmjaaCCnt
import Derived.Test.YtcagfapdhopmjaaRUs
import Derived.Laws.EntriesVeiled
import Derived.Laws.OwnMore
import Derived.Maps.AppendAt
import Derived.Lib.Strings
set_option linter.unusedSimpArgs false
set_option linter.unusedVariables false
namespace Go.Proofs.Ytcagfapdhopmjaa
open Go.RowKit Go.Lib Go.Shelf

theorem pairs_split : ∀ (l : List Nat) (pre : List (Nat × Nat)) (c : Nat × Nat) (rest : List (Nat × Nat)), pairs l = pre ++ c :: rest → ∃ l1 l2, l = l1 ++ c.1 :: c.2 :: l2 ∧ pre = pairs (l1 ++ [c.1])
  | [], pre, c, rest, h => by simp [pairs] at h
  | [a], pre, c, rest, h => by simp [pairs] at h
  | a :: b :: l, pre, c, rest, h => by
    rw [pairs_cons] at h
    cases pre with
    | nil =>
      simp at h
      obtain ⟨rfl, _⟩ := h
      exact ⟨[], l, rfl, rfl⟩
    | cons p pre =>
      simp at h
      obtain ⟨rfl, h⟩ := h
      obtain ⟨l1, l2, h1, h2⟩ := pairs_split (b :: l) pre c rest h
      refine ⟨a :: l1, l2, by rw [h1]; rfl, ?_⟩
      obtain ⟨m, hm⟩ : ∃ m, l1 ++ [c.1] = b :: m := by
        cases l1 with
        | nil => simp at h1; exact ⟨[], by simp [h1.1]⟩
        | cons x l1 => simp at h1; exact ⟨l1 ++ [c.1], by simp [h1.1]⟩
      rw [h2, List.cons_append, hm, pairs_cons]

/-- where the clumps that have come end -/
def atL (pre : List (Nat × Nat)) : Nat := (pre.getLast?.map (·.2)).getD 0
theorem atL_snoc (pre : List (Nat × Nat)) (c : Nat × Nat) : atL (pre ++ [c]) = c.2 := by simp [atL]
theorem atL_pairs (l1 : List Nat) (x : Nat) (h : l1 ≠ []) : atL (pairs (l1 ++ [x])) = x := by
  obtain ⟨l, b, rfl⟩ : ∃ l b, l1 = l ++ [b] := by
    rcases List.eq_nil_or_concat l1 with e | ⟨l, b, e⟩
    · exact absurd e h
    · exact ⟨l, b, by rw [e, List.concat_eq_append]⟩
  rw [pairs_snoc, atL_snoc]

theorem cp_at {s : ByteArray} {pre rest : List (Nat × Nat)} {c : Nat × Nat} (h : pre ++ c :: rest = cpL s) : c.1 = atL pre ∧ c.1 < c.2 ∧ c.2 ≤ s.size ∧ c.1 ∈ brL s ∧ c.2 ∈ brL s := by
  obtain ⟨l1, l2, h1, h2⟩ := pairs_split (brL s) pre c rest h.symm
  have hso := brL_sorted s
  have hm1 : c.1 ∈ brL s := by rw [h1]; simp
  have hm2 : c.2 ∈ brL s := by rw [h1]; simp
  rw [h1, List.pairwise_append] at hso
  have hlt := (List.pairwise_cons.1 hso.2.1).1 c.2 (by simp)
  refine ⟨?_, hlt, brL_le hm2, hm1, hm2⟩
  by_cases e : l1 = []
  · subst e
    obtain ⟨r, hr⟩ := brL_zero s
    rw [hr] at h1
    simp at h1
    rw [h2, ← h1.1]; rfl
  · rw [h2, atL_pairs l1 c.1 e]
theorem cp_end (s : ByteArray) : atL (cpL s) = s.size := by
  by_cases hz : s.size = 0
  · rw [(cp_empty hz).1, hz]; rfl
  · rw [← (cm_last (s := s) (by omega)).1, atL_snoc]
theorem cp_len (s : ByteArray) : (cpL s).length ≤ s.size := by
  have h1 := cpL_length s
  have h2 := brL_length s
  have h3 := brL_pos s
  by_cases hz : s.size = 0
  · rw [(cp_empty hz).1]; simp
  · omega

/-- texts in cells -/
def cpC (s : ByteArray) (l : List (Nat × Nat)) : List Value := l.map fun c => Value.string (s.extract c.1 c.2)
theorem cpC_snoc (s : ByteArray) (l : List (Nat × Nat)) (c : Nat × Nat) : cpC s (l ++ [c]) = cpC s l ++ [.string (s.extract c.1 c.2)] := by simp [cpC]

theorem infoStr : (Try.prog.info? 9).map (fun i => (i.zero, i.size, i.bytes)) = some (some (.string ⟨#[]⟩), 1, 16) := by kernel_rfl

/-- the cells of parts, while the clumps come -/
def JP (s : ByteArray) (w0 : World) (pre : List (Nat × Nat)) (W : World) : Prop :=
  ∃ lv, ((Boxed W w0.heap.size 9 (.string s) ∧ Boxed W (w0.heap.size + 1) 31 lv) ∧ (Boxed W (w0.heap.size + 1 + 1) 3 (.int .i64 (atL pre : Nat)) ∧ Boxed W (w0.heap.size + 1 + 1 + 1) 4 (.bool true))) ∧
    W.ownsRow (w0.heap.size + 13) 9 1 lv pre.length (cpC s pre) ∧ Below w0.heap.size w0 W

theorem row_window {W W' : World} {base e m n B T : Nat} {v : Value} {xs : List Value} {row : Option Nat} (h : W.ownsRow base e m v n xs) (hg : W.grownBy W' row) (hr : ∀ r, row = some r → B ≤ r ∧ r < T) (hT : T ≤ base) : W'.ownsRow base e m v n xs := by
  refine h.kept hg ?_
  cases hv : v.ownBlock with
  | none => exact .inl rfl
  | some g =>
    refine .inr (fun e' => ?_)
    have h1 := (h.lt g hv).1
    have h2 := hr g e'.symm
    omega

theorem JP_abides (s : ByteArray) (w0 : World) : AbidesAll (w0.heap.size + 5) (w0.heap.size + 5 + 8) (JP s w0) := by
  rintro pre W W' row ⟨lv, ⟨⟨h0, h1⟩, h2, h3⟩, hr, hB⟩ hg hrow
  have bk : ∀ {b t : Nat} {v : Value}, b < w0.heap.size + 5 → Boxed W b t v → Boxed W' b t v := fun {b t v} hb h => h.kept hg (fun e => by have := hrow b e.symm; omega)
  exact ⟨lv, ⟨⟨bk (by omega) h0, bk (by omega) h1⟩, bk (by omega) h2, bk (by omega) h3⟩, row_window hr hg hrow (by omega), hB.grown hg hB.size (fun k e => by have := hrow k e; omega)⟩

theorem box_grown {W W' : World} {b t T0 : Nat} {v : Value} {row : Option Nat} (h : Boxed W b t v) (hg : W.grownBy W' row) (hr : ∀ r, row = some r → T0 ≤ r) (hb : b < T0) : Boxed W' b t v := h.kept hg (fun e => by have := hr b e.symm; omega)
theorem KO.grownO {B T Bs : Nat} {W W' : World} {row : Option Nat} (hg : W.grownBy W' row) (hr : ∀ r, row = some r → T ≤ r ∧ Bs ≠ r ∧ ∀ o : Obj, W.heap[r]? = some o → o.isWalk = false) : KO B T Bs W W' :=
  ⟨hg.size, fun k hB hT hk => hg.block k hk (fun e => by have := (hr k e.symm).1; omega), KeepsWalks.of_grownBy hg (fun j o e ho => (hr j e).2.2 o ho), fun o ho => (hg.block Bs (Array.getElem?_eq_some_iff.1 ho).1 (fun e => (hr Bs e.symm).2.1 rfl)).trans ho⟩
theorem row_nowalk {W : World} {base e m n g : Nat} {v : Value} {xs : List Value} (h : W.ownsRow base e m v n xs) (hv : v.ownBlock = some g) : ∀ o : Obj, W.heap[g]? = some o → o.isWalk = false := by
  intro o ho
  rcases h.2 with ⟨rfl, _⟩ | ⟨g', cap, cur, rfl, _, hg', _⟩
  · simp [Value.ownBlock] at hv
  · obtain rfl : g' = g := by simpa [Value.ownBlock] using hv
    rw [hg'] at ho; cases ho; rfl

set_option maxRecDepth 100000 in
set_option maxHeartbeats 4000000 in
theorem parts1_in (s : ByteArray) (hs : s.size ≤ 1000000) (w0 : World) (pre : List (Nat × Nat)) (c : Nat × Nat) (rest : List (Nat × Nat)) (W : World) (hpre : pre ++ c :: rest = cpL s) (hz : w0.heap.size + 13 ≤ W.heap.size) (hj : JP s w0 pre W) :
    Calls Try.prog 39 #[.int .i64 (c.1 : Nat), .string (s.extract c.1 c.2), .pointer (some ⟨w0.heap.size + 1 + 1 + 1, 0, none⟩), .pointer (some ⟨w0.heap.size + 1 + 1, 0, none⟩), .pointer (some ⟨w0.heap.size + 1, 0, none⟩), .pointer (some ⟨w0.heap.size, 0, none⟩)] W fun e W' =>
      e = .returned (.bool true) ∧ JP s w0 (pre ++ [c]) W' ∧ KO (w0.heap.size + 5) (w0.heap.size + 5 + 8) (w0.heap.size + 1 + 1 + 1 + 1) W W' := by
  obtain ⟨lv, ⟨⟨h0, h1⟩, h2, h3⟩, hr, hB⟩ := hj
  obtain ⟨i0, hi, hz0, hz1, hz2⟩ := info_parts infoStr
  obtain ⟨hat, hlt, hle, _, _⟩ := cp_at hpre
  have hlen : pre.length + 1 ≤ s.size := by
    have e1 := cp_len s
    rw [← hpre] at e1
    simp at e1
    omega
  obtain ⟨a, b⟩ := c
  dsimp only at hat hlt hle ⊢
  rw [← hat] at h2
  clear hat
  have hsx := size_ext s a b hle
  have hx0 : ¬ s.extract a b = ⟨#[]⟩ := fun e => by
    rw [e] at hsx
    have : ByteArray.size ⟨#[]⟩ = 0 := rfl
    omega
  have hx1 : ¬ (s.extract a b).toList = [] := fun e => by
    rw [toList_data] at e
    have := congrArg List.length e
    simp at this
    omega
  have hx2 : ((s.extract a b).toList == []) = false := by rw [beq_eq_false_iff_ne]; exact hx1
  have hx3 : (s.extract a b).toList.isEmpty = false := by simpa using hx1
  have Hx1 := hide hx1
  clear hx0 hx1
  obtain ⟨x, cp, rfl⟩ := owns_form hr
  have hsz := hB.size
  have c0 := h0.cell
  have c1 := h1.cell
  have c2 := h2.cell
  have c3 := h3.cell
  have f3 := h3.frozen
  have p0 := h0.other (show w0.heap.size ≠ w0.heap.size + 1 + 1 + 1 by omega) (.bool true)
  have p1 := h1.other (show w0.heap.size + 1 ≠ w0.heap.size + 1 + 1 + 1 by omega) (.bool true)
  have p2 := h2.other (show w0.heap.size + 1 + 1 ≠ w0.heap.size + 1 + 1 + 1 by omega) (.bool true)
  have p3 := h3.set (.bool true)
  have pr := ownsRow_setCell_below hr (a := ⟨w0.heap.size + 1 + 1 + 1, 0, none⟩) (show w0.heap.size + 1 + 1 + 1 < w0.heap.size + 13 by omega) (.bool true)
  have pB := hB.setCell (p := ⟨w0.heap.size + 1 + 1 + 1, 0, none⟩) (show w0.heap.size ≤ w0.heap.size + 1 + 1 + 1 by omega) (.bool true)
  have pK : KO (w0.heap.size + 5) (w0.heap.size + 5 + 8) (w0.heap.size + 1 + 1 + 1 + 1) W _ := KO.set h3 (.inl (by omega)) (by omega) (.bool true)
  have c4 := p2.cell
  have f4 := p2.frozen
  have q0 := p0.other (show w0.heap.size ≠ w0.heap.size + 1 + 1 by omega) (.int .i64 (b : Nat))
  have q1 := p1.other (show w0.heap.size + 1 ≠ w0.heap.size + 1 + 1 by omega) (.int .i64 (b : Nat))
  have q2 := p2.set (.int .i64 (b : Nat))
  have q3 := p3.other (show w0.heap.size + 1 + 1 + 1 ≠ w0.heap.size + 1 + 1 by omega) (.int .i64 (b : Nat))
  have qr := ownsRow_setCell_below pr (a := ⟨w0.heap.size + 1 + 1, 0, none⟩) (show w0.heap.size + 1 + 1 < w0.heap.size + 13 by omega) (.int .i64 (b : Nat))
  have qB := pB.setCell (p := ⟨w0.heap.size + 1 + 1, 0, none⟩) (show w0.heap.size ≤ w0.heap.size + 1 + 1 by omega) (.int .i64 (b : Nat))
  have qK := pK.trans (KO.set p2 (.inl (by omega)) (by omega) (.int .i64 (b : Nat)))
  have c5 := q1.cell
  have e9 : (a : Int) + ((b - a : Nat) : Int) = (b : Int) := by omega
  have e8 : (a : Int) + ((s.extract a b).size : Int) = (b : Int) := by omega
  have hlb : (pre.length : Int) ≤ (s.size : Int) := by omega
  clear pK pB pr p0 p1 p3 hr hB h0 h1 h2 h3
  have hcn := cell_one_new ((W.setCell ⟨w0.heap.size + 1 + 1 + 1, 0, none⟩ (.bool true)).setCell ⟨w0.heap.size + 1 + 1, 0, none⟩ (.int .i64 (b : Nat))) (.string (s.extract a b)) 9
  rw [show ((W.setCell ⟨w0.heap.size + 1 + 1 + 1, 0, none⟩ (.bool true)).setCell ⟨w0.heap.size + 1 + 1, 0, none⟩ (.int .i64 (b : Nat))).heap.size = W.heap.size by simp] at hcn
  have hba : w0.heap.size + 13 ≤ (((W.setCell ⟨w0.heap.size + 1 + 1 + 1, 0, none⟩ (.bool true)).setCell ⟨w0.heap.size + 1 + 1, 0, none⟩ (.int .i64 (b : Nat))).alloc (.cells #[.string (s.extract a b)] 9)).heap.size := by simp; omega
  have hm1 : pre.length + 1 ≤ maxLen := by unfold maxLen; omega
  have hm2 : (pre.length + 1) * 16 ≤ 140737488355328 := by omega
  have hoc : ∀ u ∈ ([.string (s.extract a b)] : List Value), u.oneCell' = true := by simp [Value.oneCell']
  have qra := qr.alloc (.cells #[.string (s.extract a b)] 9)
  go_enter Try.func39, Try.ntmps39
  go_wp2_with (at_builtin; refine wpList_append_own _ rfl _ _ 31 rfl (w0.heap.size + 13) 9 i0 (.string ⟨#[]⟩) 1 16 Try.underlying31 hi hz0 hz1 hz2 rfl (by decide) (.slice x pre.length cp) pre.length (cpC s pre) rfl qra ⟨W.heap.size, 0, none⟩ 1 1 [.string (s.extract a b)] rfl rfl hcn hoc hm1 hm2 hba ?_; intro v4 W4 ho4 hg4 _; obtain ⟨g1, cp1, rfl⟩ := ownsRow_succ ho4; have r1 := box_grown (q1.alloc _) hg4 (fun r e => (qra.lt r e).1) (show w0.heap.size + 1 < w0.heap.size + 13 by omega); have r3 := box_grown (q3.alloc _) hg4 (fun r e => (qra.lt r e).1) (show w0.heap.size + 1 + 1 + 1 < w0.heap.size + 13 by omega); have c7 := r1.cell; have f7 := r1.frozen; have c8 := (r3.other (show w0.heap.size + 1 + 1 + 1 ≠ w0.heap.size + 1 by omega) (.slice (some ⟨g1, 0, none⟩) (pre.length + 1) cp1)).cell)
  go_ret
  have r0 := (box_grown (q0.alloc _) hg4 (fun r e => (qra.lt r e).1) (show w0.heap.size < w0.heap.size + 13 by omega)).other (show w0.heap.size ≠ w0.heap.size + 1 by omega) (.slice (some ⟨g1, 0, none⟩) (pre.length + 1) cp1)
  have r2 := (box_grown (q2.alloc _) hg4 (fun r e => (qra.lt r e).1) (show w0.heap.size + 1 + 1 < w0.heap.size + 13 by omega)).other (show w0.heap.size + 1 + 1 ≠ w0.heap.size + 1 by omega) (.slice (some ⟨g1, 0, none⟩) (pre.length + 1) cp1)
  have kG : KO (w0.heap.size + 5) (w0.heap.size + 5 + 8) (w0.heap.size + 1 + 1 + 1 + 1) _ W4 := KO.grownO hg4 (fun r e => ⟨by have := (qra.lt r e).1; omega, by have := (qra.lt r e).1; omega, row_nowalk qra e⟩)
  have kAll := ((qK.trans (KO.of_below ((Below.refl _ _).alloc (Nat.le_refl _) _))).trans kG).trans (KO.set r1 (.inl (by omega)) (by omega) (.slice (some ⟨g1, 0, none⟩) (pre.length + 1) cp1))
  refine ⟨rfl, ⟨_, ⟨⟨r0, r1.set _⟩, ?_, r3.other (by omega) _⟩, ?_, ?_⟩, kAll⟩
  · rw [atL_snoc]; exact r2
  · rw [List.length_append, cpC_snoc]
    exact ownsRow_setCell_below ho4 (a := ⟨w0.heap.size + 1, 0, none⟩) (show w0.heap.size + 1 < w0.heap.size + 13 by omega) _
  · exact ((qB.alloc (by simp; omega) _).grown hg4 (by simp; omega) (fun k e => by have := (qra.lt k e).1; omega)).setCell (p := ⟨w0.heap.size + 1, 0, none⟩) (show w0.heap.size ≤ w0.heap.size + 1 by omega) _

end Go.Proofs.Ytcagfapdhopmjaa
