/-
  Rows of cells that a call owns.
-/
import Derived.Test.YtcagfapdhopmjabRIn
import Derived.Test.YtcagfapdhopmjabRefPcs
import Derived.RangeFuncRecord
import Derived.Laws.OwnMore
set_option linter.unusedSimpArgs false
set_option linter.unusedVariables false
namespace Go.Proofs.Ytcagfapdhopmjab
open Go.RowKit Go.Lib

theorem below_drewN {n : Nat} {w W : World} (h : Below n w W) (k : Nat) : Below n w (W.drewN k) := ⟨h.os, h.tape, h.output, h.size, h.block⟩

theorem infoInt : (Try.prog.info? 3).map (fun i => (i.zero, i.size, i.bytes)) = some (some (.int .i64 0), 1, 8) := by kernel_rfl

theorem owns_below {W W' : World} {B e m n : Nat} {v : Value} {xs : List Value} (h : W.ownsRow B e m v n xs) (hb : Below W.heap.size W W') : W'.ownsRow B e m v n xs := by
  refine ⟨h.1, ?_⟩
  rcases h.2 with h2 | ⟨g, cap, cur, e1, e2, e3, rest⟩
  · exact .inl h2
  · exact .inr ⟨g, cap, cur, e1, e2, (hb.block g (Array.getElem?_eq_some_iff.1 e3).1).trans e3, rest⟩
theorem owns_base {W : World} {B B' e m n : Nat} {v : Value} {xs : List Value} (h : W.ownsRow B e m v n xs) (hb : B' ≤ B) : W.ownsRow B' e m v n xs := by
  refine ⟨h.1, ?_⟩
  rcases h.2 with h2 | ⟨g, cap, cur, e1, e2, rest⟩
  · exact .inl h2
  · exact .inr ⟨g, cap, cur, e1, Nat.le_trans hb e2, rest⟩
theorem owns_form {W : World} {B e m n : Nat} {v : Value} {xs : List Value} (h : W.ownsRow B e m v n xs) : ∃ a c, v = .slice a n c := by
  rcases h.2 with ⟨rfl, rfl⟩ | ⟨g, cap, cur, rfl, _⟩
  · exact ⟨_, _, rfl⟩
  · exact ⟨_, _, rfl⟩
theorem owns_some {W : World} {B e m n c : Nat} {a : Option Addr} {xs : List Value} (h : W.ownsRow B e m (.slice a n c) n xs) (hn : 0 < n) : ∃ g, a = some ⟨g, 0, none⟩ := by
  rcases h.2 with ⟨e1, e2⟩ | ⟨g, cap, cur, e1, _⟩
  · omega
  · exact ⟨g, by simpa using (congrArg (fun v => match v with | Value.slice a _ _ => a | _ => none) e1)⟩

theorem pcs_cell {W : World} {B g cap : Nat} {s : ByteArray} {l : List Nat} (h : W.ownsRow B 30 4 (.slice (some ⟨g, 0, none⟩) l.length cap) l.length (pcsC s l)) {k i : Nat} (hk : l[k]? = some i) (q : Nat) (hq : q < 4) :
    W.cell? ⟨g, k * 4 + q, none⟩ = (pcC s i)[q]? := by
  have hlt : k < l.length := (List.getElem?_eq_some_iff.1 hk).1
  rw [h.cellAt (k * 4 + q) (by omega), pcsC_get s l k q i hk hq]

/-- numbers in cells -/
def ivC (l : List Nat) : List Value := l.map fun (k : Nat) => Value.int .i64 (k : Int)
theorem ivC_snoc (l : List Nat) (k : Nat) : ivC (l ++ [k]) = ivC l ++ [.int .i64 (k : Int)] := by simp [ivC]
theorem ivC_length (l : List Nat) : (ivC l).length = l.length := by simp [ivC]

end Go.Proofs.Ytcagfapdhopmjab
