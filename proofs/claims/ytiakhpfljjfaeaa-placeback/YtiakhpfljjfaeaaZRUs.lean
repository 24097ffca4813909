/-
  What the document's own Break, Count, Next, Prev and All answer.
-/
import Derived.Test.YtiakhpfljjfaeaaZRBr
import Derived.Test.YtiakhpfljjfaeaaZXReg
set_option linter.unusedSimpArgs false
set_option linter.unusedVariables false
namespace Go.Proofs.Ytiakhpfljjfaeaa
open Go.RowKit Go.Lib

theorem brL_length (s : ByteArray) : (brL s).length ≤ s.size + 1 := by
  have h := brL_sorted s
  have hle : ∀ k ∈ brL s, k ≤ s.size := fun k hk => brL_le hk
  have gen : ∀ (l : List Nat) (m b : Nat), l.Pairwise (· < ·) → (∀ k ∈ l, b ≤ k) → (∀ k ∈ l, k ≤ m) → b ≤ m + 1 → l.length + b ≤ m + 1 := by
    intro l
    induction l with
    | nil => intro m b _ _ _ h; simpa using h
    | cons x l ih =>
      intro m b hp hb hm _
      have h1 := List.pairwise_cons.1 hp
      have := ih m (x + 1) h1.2 (fun k hk => h1.1 k hk) (fun k hk => hm k (by simp [hk])) (by have := hm x (by simp); omega)
      have hbx := hb x (by simp)
      simp
      omega
  have := gen (brL s) s.size 0 h (fun _ _ => by omega) hle (by omega)
  omega
theorem brL_pos (s : ByteArray) : 1 ≤ (brL s).length := by obtain ⟨r, hr⟩ := brL_zero s; rw [hr]; simp
theorem cpL_length (s : ByteArray) : (cpL s).length = (brL s).length - 1 := by
  unfold cpL pairs
  rw [List.length_zip, List.length_tail]; omega

theorem iv_cell {W : World} {B g cap : Nat} {l : List Nat} (h : W.ownsRow B 3 1 (.slice (some ⟨g, 0, none⟩) l.length cap) l.length (ivC l)) {k i : Nat} (hk : l[k]? = some i) : W.cell? ⟨g, k, none⟩ = some (.int .i64 (i : Int)) := by
  have hlt : k < l.length := (List.getElem?_eq_some_iff.1 hk).1
  rw [h.cellAt k (by omega)]
  simp [ivC, hk]

end Go.Proofs.Ytiakhpfljjfaeaa
