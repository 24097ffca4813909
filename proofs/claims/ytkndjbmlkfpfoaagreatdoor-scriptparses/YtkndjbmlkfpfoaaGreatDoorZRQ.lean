/-
  What the document's own Quote answers: the same text in quotes.
-/
import Derived.Test.YtkndjbmlkfpfoaaGreatDoorZHx
import Derived.Test.YtkndjbmlkfpfoaaGreatDoorZRefDec
import Derived.Lib.AppendStr
import Derived.OwnWalk
import Derived.Maps.AppendAt
import Derived.Laws.EntriesVeiled
import Derived.Test.YtkndjbmlkfpfoaaGreatDoorZRegToRegV

set_option linter.unusedSimpArgs false
set_option linter.unusedVariables false
namespace Go.Proofs.YtkndjbmlkfpfoaaGreatDoor
open Go.RowKit Go.Lib

theorem infoByte : (Tryz.prog.info? 5).map (fun i => (i.zero, i.size, i.bytes)) = some (some (.int .u8 0), 1, 1) := by kernel_rfl
theorem conv_own {W : World} {B n : Nat} {v : Value} {l : List UInt8} (h : W.ownsRow B 5 1 v n (byteCells l)) (hn : n = l.length) (hne : l ≠ []) :
    (convert 38 9 v).run Tryz.prog W = .ok (.string (ofL l)) W := by
  have h0 := h
  subst hn
  rcases h.2 with ⟨rfl, e⟩ | ⟨g, cap, cur, rfl, _⟩
  · exact absurd (List.eq_nil_of_length_eq_zero e) hne
  · have hc := conv_bytes W ⟨g, 0, none⟩ l.length cap (l.map fun b => ((b.toNat : Nat) : Int)) (by simp) (fun j hj => by
      have hj' : j < l.length := by simpa using hj
      refine h0.cells rfl j _ ?_
      simp [byteCells, List.getElem?_eq_getElem hj'])
    rw [u8_back] at hc
    exact hc
theorem owns1_below {W W' : World} {B n : Nat} {v : Value} {xs : List Value} (h : W.ownsRow B 5 1 v n xs) (hb : Below W.heap.size W W') : W'.ownsRow B 5 1 v n xs := by
  refine ⟨h.1, ?_⟩
  rcases h.2 with h2 | ⟨g, cap, cur, e1, e2, e3, rest⟩
  · exact .inl h2
  · exact .inr ⟨g, cap, cur, e1, e2, (hb.block g (Array.getElem?_eq_some_iff.1 e3).1).trans e3, rest⟩
theorem subL_len (s : ByteArray) (i n : Nat) (h : i + n ≤ s.size) : (subL s i n).length = n := by
  have : s.data.toList.length = s.size := by simp
  unfold subL; rw [List.length_take, List.length_drop]; omega
theorem ext_sub (s : ByteArray) (i n : Nat) : (s.extract i (i + n)).data.toList = subL s i n := by
  unfold subL; simp
theorem strCells_sub (s : ByteArray) (i n : Nat) (h : i + n ≤ s.size) : strCells (s.extract i (i + n)) = byteCells (subL s i n) := by
  unfold strCells; rw [ext_sub]; rfl
end Go.Proofs.YtkndjbmlkfpfoaaGreatDoor
