/-
  What the document's own small functions of chapter 4 answer: digit, two, hidden, braces, value.
-/
import Derived.Test.YticjilkcobpcjaaDoorZHx
set_option linter.unusedSimpArgs false
set_option linter.unusedVariables false
namespace Go.Proofs.YticjilkcobpcjaaDoor
open Go.RowKit Go.Lib

theorem conv_two (b c : UInt8) (w : World) : (convert 60 9 (.slice (some ⟨w.heap.size, 0, none⟩) 2 2)).run Tryd.prog (w.alloc (.cells #[.int .u8 (b.toNat : Int), .int .u8 (c.toNat : Int)] 5)) = .ok (.string (ofL [b, c])) (w.alloc (.cells #[.int .u8 (b.toNat : Int), .int .u8 (c.toNat : Int)] 5)) := by
  have := conv_bytes (w.alloc (.cells #[.int .u8 (b.toNat : Int), .int .u8 (c.toNat : Int)] 5)) ⟨w.heap.size, 0, none⟩ 2 2 [(b.toNat : Int), (c.toNat : Int)] rfl (fun j hj => by
    have hb : (w.alloc (.cells #[.int .u8 (b.toNat : Int), .int .u8 (c.toNat : Int)] 5)).heap[w.heap.size]? = some (.cells #[.int .u8 (b.toNat : Int), .int .u8 (c.toNat : Int)] 5) := by show (w.heap.push _)[w.heap.size]? = _; simp
    rcases (by simp at hj; omega : j = 0 ∨ j = 1) with rfl | rfl
    · show World.cell? _ ⟨w.heap.size, 0, none⟩ = _
      unfold World.cell?
      simp only [hb]
      rfl
    · show World.cell? _ ⟨w.heap.size, 0 + 1, none⟩ = _
      unfold World.cell?
      simp only [hb]
      rfl)
  rw [this]
  simp

theorem hxL_step (u : Nat) (h0 : u ≠ 0) : hxL u = hxL (u / 16) ++ [hxD (u % 16)] := by
  unfold hxL
  obtain ⟨n, rfl⟩ : ∃ n, u = n + 1 := ⟨u - 1, by omega⟩
  rw [show hxF (n + 1) (n + 1) = hxF n ((n + 1) / 16) ++ [hxD ((n + 1) % 16)] by rw [hxF]; rw [if_neg h0]]
  rw [hxF_fuel n ((n + 1) / 16) ((n + 1) / 16) (by omega) (Nat.le_refl _)]
theorem ofL_append (a b : List UInt8) : ofL a ++ ofL b = ofL (a ++ b) := by apply toList_inj; simp [ofL]

end Go.Proofs.YticjilkcobpcjaaDoor
