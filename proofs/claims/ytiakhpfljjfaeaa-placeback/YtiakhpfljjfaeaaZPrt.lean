/-
  What the law's own parts answers: a text's clumps, and true.
-/
import Derived.Test.YtiakhpfljjfaeaaZCCnt
import Derived.Test.YtiakhpfljjfaeaaZRUs
import Derived.Laws.EntriesVeiled
import Derived.Laws.OwnMore
import Derived.Maps.AppendAt
import Derived.Lib.Strings
set_option linter.unusedSimpArgs false
set_option linter.unusedVariables false
namespace Go.Proofs.Ytiakhpfljjfaeaa
open Go.RowKit Go.Lib Go.Shelf

theorem pairs_split : ∀ (l : List Nat) (pre : List (Nat × Nat)) (c : Nat × Nat) (rest : List (Nat × Nat)), pairs l = pre ++ c :: rest → ∃ l1 l2, l = l1 ++ c.1 :: c.2 :: l2 ∧ pre = pairs (l1 ++ [c.1])
  | [], pre, c, rest, h => by simp [pairs] at h
  | [a], pre, c, rest, h => by simp [pairs] at h
  | a :: b :: l, pre, c, rest, h => by
    rw [pairs_cons] at h
    cases pre with
    | nil =>
      simp at h
      obtain ⟨rfl, _⟩ := h
      exact ⟨[], l, rfl, rfl⟩
    | cons p pre =>
      simp at h
      obtain ⟨rfl, h⟩ := h
      obtain ⟨l1, l2, h1, h2⟩ := pairs_split (b :: l) pre c rest h
      refine ⟨a :: l1, l2, by rw [h1]; rfl, ?_⟩
      obtain ⟨m, hm⟩ : ∃ m, l1 ++ [c.1] = b :: m := by
        cases l1 with
        | nil => simp at h1; exact ⟨[], by simp [h1.1]⟩
        | cons x l1 => simp at h1; exact ⟨l1 ++ [c.1], by simp [h1.1]⟩
      rw [h2, List.cons_append, hm, pairs_cons]

/-- where the clumps that have come end -/
def atL (pre : List (Nat × Nat)) : Nat := (pre.getLast?.map (·.2)).getD 0
theorem atL_snoc (pre : List (Nat × Nat)) (c : Nat × Nat) : atL (pre ++ [c]) = c.2 := by simp [atL]
theorem atL_pairs (l1 : List Nat) (x : Nat) (h : l1 ≠ []) : atL (pairs (l1 ++ [x])) = x := by
  obtain ⟨l, b, rfl⟩ : ∃ l b, l1 = l ++ [b] := by
    rcases List.eq_nil_or_concat l1 with e | ⟨l, b, e⟩
    · exact absurd e h
    · exact ⟨l, b, by rw [e, List.concat_eq_append]⟩
  rw [pairs_snoc, atL_snoc]

theorem cp_at {s : ByteArray} {pre rest : List (Nat × Nat)} {c : Nat × Nat} (h : pre ++ c :: rest = cpL s) : c.1 = atL pre ∧ c.1 < c.2 ∧ c.2 ≤ s.size ∧ c.1 ∈ brL s ∧ c.2 ∈ brL s := by
  obtain ⟨l1, l2, h1, h2⟩ := pairs_split (brL s) pre c rest h.symm
  have hso := brL_sorted s
  have hm1 : c.1 ∈ brL s := by rw [h1]; simp
  have hm2 : c.2 ∈ brL s := by rw [h1]; simp
  rw [h1, List.pairwise_append] at hso
  have hlt := (List.pairwise_cons.1 hso.2.1).1 c.2 (by simp)
  refine ⟨?_, hlt, brL_le hm2, hm1, hm2⟩
  by_cases e : l1 = []
  · subst e
    obtain ⟨r, hr⟩ := brL_zero s
    rw [hr] at h1
    simp at h1
    rw [h2, ← h1.1]; rfl
  · rw [h2, atL_pairs l1 c.1 e]
theorem cp_end (s : ByteArray) : atL (cpL s) = s.size := by
  by_cases hz : s.size = 0
  · rw [(cp_empty hz).1, hz]; rfl
  · rw [← (cm_last (s := s) (by omega)).1, atL_snoc]
theorem cp_len (s : ByteArray) : (cpL s).length ≤ s.size := by
  have h1 := cpL_length s
  have h2 := brL_length s
  have h3 := brL_pos s
  by_cases hz : s.size = 0
  · rw [(cp_empty hz).1]; simp
  · omega

/-- texts in cells -/
def cpC (s : ByteArray) (l : List (Nat × Nat)) : List Value := l.map fun c => Value.string (s.extract c.1 c.2)
theorem cpC_snoc (s : ByteArray) (l : List (Nat × Nat)) (c : Nat × Nat) : cpC s (l ++ [c]) = cpC s l ++ [.string (s.extract c.1 c.2)] := by simp [cpC]

theorem infoStr : (Try.prog.info? 9).map (fun i => (i.zero, i.size, i.bytes)) = some (some (.string ⟨#[]⟩), 1, 16) := by kernel_rfl

theorem row_window {W W' : World} {base e m n B T : Nat} {v : Value} {xs : List Value} {row : Option Nat} (h : W.ownsRow base e m v n xs) (hg : W.grownBy W' row) (hr : ∀ r, row = some r → B ≤ r ∧ r < T) (hT : T ≤ base) : W'.ownsRow base e m v n xs := by
  refine h.kept hg ?_
  cases hv : v.ownBlock with
  | none => exact .inl rfl
  | some g =>
    refine .inr (fun e' => ?_)
    have h1 := (h.lt g hv).1
    have h2 := hr g e'.symm
    omega

theorem box_grown {W W' : World} {b t T0 : Nat} {v : Value} {row : Option Nat} (h : Boxed W b t v) (hg : W.grownBy W' row) (hr : ∀ r, row = some r → T0 ≤ r) (hb : b < T0) : Boxed W' b t v := h.kept hg (fun e => by have := hr b e.symm; omega)
theorem KO.grownO {B T Bs : Nat} {W W' : World} {row : Option Nat} (hg : W.grownBy W' row) (hr : ∀ r, row = some r → T ≤ r ∧ Bs ≠ r ∧ ∀ o : Obj, W.heap[r]? = some o → o.isWalk = false) : KO B T Bs W W' :=
  ⟨hg.size, fun k hB hT hk => hg.block k hk (fun e => by have := (hr k e.symm).1; omega), KeepsWalks.of_grownBy hg (fun j o e ho => (hr j e).2.2 o ho), fun o ho => (hg.block Bs (Array.getElem?_eq_some_iff.1 ho).1 (fun e => (hr Bs e.symm).2.1 rfl)).trans ho⟩
theorem row_nowalk {W : World} {base e m n g : Nat} {v : Value} {xs : List Value} (h : W.ownsRow base e m v n xs) (hv : v.ownBlock = some g) : ∀ o : Obj, W.heap[g]? = some o → o.isWalk = false := by
  intro o ho
  rcases h.2 with ⟨rfl, _⟩ | ⟨g', cap, cur, rfl, _, hg', _⟩
  · simp [Value.ownBlock] at hv
  · obtain rfl : g' = g := by simpa [Value.ownBlock] using hv
    rw [hg'] at ho; cases ho; rfl

end Go.Proofs.Ytiakhpfljjfaeaa
