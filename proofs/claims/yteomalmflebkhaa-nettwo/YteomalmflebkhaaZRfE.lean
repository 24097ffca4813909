/-
  The document's own Net: one taken out of the list: its parts.
-/
import Derived.Test.YteomalmflebkhaaZRfD
set_option linter.unusedSimpArgs false
set_option linter.unusedVariables false
namespace Go.Proofs.Yteomalmflebkhaa
open Go.RowKit Go.Lib

variable {P N : Nat → Prop} {w W W' X : World} {b p f q : Nat} {c : Cp} {s : Stn} {v u : Value} {e : Ending} {L : List (Cp × Value × Value)} {frm to sent : Int} {cl : List Int}
theorem split_at {α : Type} {l : List α} {i : Nat} {c : α} (h : l[i]? = some c) : l = l.take i ++ c :: l.drop (i + 1) := by
  obtain ⟨hi, rfl⟩ := List.getElem?_eq_some_iff.1 h
  rw [← List.drop_eq_getElem_cons hi, List.take_append_drop]
theorem tk_parts {l : List Cp} (hp : l.Pairwise (fun a b => a.num < b.num)) {i : Nat} {c : Cp} (h : l[i]? = some c) : l.filter (fun d => !(d.num == c.num)) = l.take i ++ l.drop (i + 1) := by
  have e := split_at h
  have hp' := hp
  rw [e, List.pairwise_append, List.pairwise_cons] at hp'
  obtain ⟨_, ⟨h2, _⟩, h3⟩ := hp'
  have f1 : (l.take i).filter (fun d => !(d.num == c.num)) = l.take i := List.filter_eq_self.2 fun d hd => by
    have := h3 d hd c (by simp)
    simp only [Bool.not_eq_true', beq_eq_false_iff_ne]
    omega
  have f2 : (l.drop (i + 1)).filter (fun d => !(d.num == c.num)) = l.drop (i + 1) := List.filter_eq_self.2 fun d hd => by
    have := h2 d hd
    simp only [Bool.not_eq_true', beq_eq_false_iff_ne]
    omega
  have e2 := congrArg (List.filter (fun d : Cp => !(d.num == c.num))) e
  rw [List.filter_append, List.filter_cons, f1, f2] at e2
  simpa using e2
theorem sl_toH (w : World) (a : Option Addr) (n c k : Nat) (hk : k ≤ c) :
    (Instr.sliceAt 60 (.slice a n c) none (some (.int .i64 (k : Nat))) none).run Try.prog w = .ok (.slice a k c) w := by
  obtain ⟨i0, hi, hz0, hz1, hz2⟩ := info_parts infoH
  have h1 : (k : Int) ≤ (c : Int) := by omega
  simp [Instr.sliceAt, Instr.slice, run_underlying Try.underlying60, sizeOf, typeInfo, hi, hz1, go_sem, h1, hk]
theorem sl_fromH (w : World) (g n c i : Nat) (h : i + 1 ≤ n) (hn : n ≤ c) :
    ∃ ad : Addr, (Instr.sliceAt 60 (.slice (some ⟨g, 0, none⟩) n c) (some (.int .i64 ((i : Int) + 1))) none none).run Try.prog w = .ok (.slice (some ad) (n - (i + 1)) (c - (i + 1))) w ∧ (n ≠ i + 1 → ad = ⟨g, (i + 1) * 7, none⟩) := by
  obtain ⟨i0, hi, hz0, hz1, hz2⟩ := info_parts infoH
  have h1 : (i : Int) + 1 ≤ (n : Int) := by omega
  have h2 : ((i : Int) + 1).toNat = i + 1 := by omega
  have h3 : (0 : Int) ≤ (i : Int) + 1 := by omega
  have h4 : (n : Int) ≤ (c : Int) := by omega
  have h5 : (i : Int) + 1 ≤ (c : Int) := by omega
  by_cases hc : c = i + 1
  · refine ⟨⟨g, 0, none⟩, ?_, fun e => by omega⟩
    subst hc
    have e : n = i + 1 := by omega
    subst e
    simp [Instr.sliceAt, Instr.slice, run_underlying Try.underlying60, sizeOf, typeInfo, hi, hz1, go_sem, h1, h2, h3, h4, h5]
  · refine ⟨⟨g, (i + 1) * 7, none⟩, ?_, fun _ => rfl⟩
    simp [Instr.sliceAt, Instr.slice, run_underlying Try.underlying60, sizeOf, typeInfo, hi, hz1, go_sem, h1, h2, h3, h4, h5, hc]
theorem encH_one {l : List (Cp × Value × Value)} (h : ∀ x ∈ l, (∃ a n k, x.2.1 = .slice a n k) ∧ ∃ a n k, x.2.2 = .slice a n k) : ∀ u ∈ flat encH l, u.oneCell' = true := fun u hu => by
  obtain ⟨x, hx, hx2⟩ := flat_mem hu
  obtain ⟨⟨a, n, k, e1⟩, a', n', k', e2⟩ := h x hx
  unfold encH at hx2
  rw [e1, e2] at hx2
  simp only [List.mem_cons, List.not_mem_nil, or_false] at hx2
  rcases hx2 with rfl | rfl | rfl | rfl | rfl | rfl | rfl <;> rfl
theorem HM.slc (h : HM P W b v L s) : ∀ x ∈ L, (∃ a n k, x.2.1 = .slice a n k) ∧ ∃ a n k, x.2.2 = .slice a n k := fun x hx => by
  obtain ⟨a, k, e⟩ := (h.dat x hx).1.1.form
  obtain ⟨a', k', e'⟩ := (h.cle x hx).1.1.form
  exact ⟨⟨a, _, k, e⟩, a', _, k', e'⟩

end Go.Proofs.Yteomalmflebkhaa
