/-
  Of known's last region: a row that the run-time may mark, what stays by cells.
-/
import Derived.Test.YtkffonoifbaifaaGreatZFM
import Derived.Test.YtkffonoifbaifaaGreatZXReg
set_option linter.unusedSimpArgs false
set_option linter.unusedVariables false
namespace Go.Proofs.YtkffonoifbaifaaGreat
open Go.RowKit Go.Lib

def l9 : List Nat := [49, 50, 51, 52, 53, 54, 55, 56, 57]
def c9 : Array Value := #[.int .u8 49, .int .u8 50, .int .u8 51, .int .u8 52, .int .u8 53, .int .u8 54, .int .u8 55, .int .u8 56, .int .u8 57]
def GF (B : Nat) (w w' : World) : Prop := Below B w w' ∧ ∀ (k : Nat) (cs : Array Value) (t : TypeId) (lk : Nat × Nat), w.heap[k]? = some (Obj.cells cs t lk) → ∃ lk' : Nat × Nat, w'.heap[k]? = some (Obj.cells cs t lk')
theorem GF.refl (B : Nat) (w : World) : GF B w w := ⟨Below.refl _ _, fun k cs t lk h => ⟨lk, h⟩⟩
theorem GF.of_below {B : Nat} {w w' : World} (hb : Below w.heap.size w w') (hB : B ≤ w.heap.size) : GF B w w' :=
  ⟨hb.mono hB, fun k cs t lk h => ⟨lk, by rw [hb.block k (Array.getElem?_eq_some_iff.1 h).1]; exact h⟩⟩
theorem GF.cell {B : Nat} {w w' : World} (g : GF B w w') {a : Addr} {v : Value} (h : w.cell? a = some v) : w'.cell? a = some v := by
  unfold World.cell? at h ⊢
  split at h
  · rename_i c t lk hc
    obtain ⟨lk', e⟩ := g.2 _ _ _ _ hc
    rw [e]
    exact h
  · cases h
theorem RC.gf {B : Nat} {W W' : World} {v : Value} {n : Nat} {C : List Value} (h : RC W v n C) (g : GF B W W') : RC W' v n C := by
  rcases h with h | ⟨b, off, cap, e, h1, h2, h3⟩
  · exact .inl h
  · exact .inr ⟨b, off, cap, e, h1, Nat.lt_of_lt_of_le h2 g.1.size, fun j x hx => g.cell (h3 j x hx)⟩
def rowP (B : Nat) : World → Value → Prop := fun W x => ∃ b lk, x = (.slice (some ⟨b, 0, none⟩) 9 9) ∧ B ≤ b ∧ W.heap[b]? = some (.cells c9 5 lk)
theorem rowP.gf {B : Nat} {W W' : World} {x : Value} (h : rowP B W x) (g : GF B W W') : rowP B W' x := by
  obtain ⟨b, lk, e, hb, hc⟩ := h
  obtain ⟨lk', hc'⟩ := g.2 _ _ _ _ hc
  exact ⟨b, lk', e, hb, hc'⟩
theorem c9_at (j : Nat) (x : Value) (hx : (bC l9)[j]? = some x) : c9[j]? = some x := by
  rw [← hx]
  exact (congrArg (fun l : List Value => l[j]?) (show c9.toList = bC l9 from rfl)) ▸ (by simp)
theorem rowP.rb {B : Nat} {W : World} {x : Value} (h : rowP B W x) : ∃ b, x = (.slice (some ⟨b, 0, none⟩) 9 9) ∧ RB W (.slice (some ⟨b, 0, none⟩) 9 9) l9 := by
  obtain ⟨b, lk, e, hb, hc⟩ := h
  refine ⟨b, e, .inr ⟨b, 0, 9, rfl, Nat.le_refl _, (Array.getElem?_eq_some_iff.1 hc).1, fun j x hx => ?_⟩⟩
  rw [Nat.zero_add]
  simp only [World.cell?, hc]
  exact c9_at j x hx
theorem conv9 {B b : Nat} {W : World} {lk : Nat × Nat} (hb : B ≤ b) (h : W.heap[b]? = some (.cells c9 5 lk)) : ∃ W', (convert 22 22 (.slice (some ⟨b, 0, none⟩) 9 9)).run Tryz.prog W = .ok (.slice (some ⟨b, 0, none⟩) 9 9) W' ∧ GF B W W' ∧ rowP B W' (.slice (some ⟨b, 0, none⟩) 9 9) := by
  have hsh : W.shape? b = some (5, 9) := by unfold World.shape?; rw [h]; rfl
  have hm : ∀ k, (W.freeze ⟨b, 9, none⟩ 1).heap[k]? = if k = b then some (.cells c9 5 (if lk.1 == lk.2 then (9, 10) else (min lk.1 9, max lk.2 10))) else W.heap[k]? := by
    intro k
    unfold World.freeze
    rw [if_neg (by decide)]
    show (W.heap.modify b _)[k]? = _
    rw [Array.getElem?_modify]
    by_cases hk : k = b
    · subst hk; simp [h]
    · rw [if_neg (fun e => hk e.symm), if_neg hk]
  have hs : (W.freeze ⟨b, 9, none⟩ 1).heap.size = W.heap.size := by
    unfold World.freeze
    rw [if_neg (by decide)]
    show (W.heap.modify b _).size = _
    simp
  refine ⟨W.freeze ⟨b, 9, none⟩ 1, ?_, ⟨⟨by unfold World.freeze; rw [if_neg (by decide)], by unfold World.freeze; rw [if_neg (by decide)], by unfold World.freeze; rw [if_neg (by decide)], by rw [hs]; exact Nat.le_refl _, fun k hk => ?_⟩, fun k cs t l2 hc => ?_⟩, ⟨b, _, rfl, hb, by rw [hm, if_pos rfl]⟩⟩
  · simp [convert, run_underlying Tryz.underlying22, run_underlying Tryz.underlying5, markStringish, hsh]
  · rw [hm, if_neg (by omega)]
  · by_cases hk : k = b
    · subst hk
      rw [h] at hc
      obtain ⟨rfl, rfl, rfl⟩ := by simpa using hc
      exact ⟨_, by rw [hm, if_pos rfl]⟩
    · exact ⟨l2, by rw [hm, if_neg hk]; exact hc⟩
theorem sum9 : uI (crc l9) = 3421780262 := by kernel_rfl
theorem row9 (w : World) : (w.alloc (.cells c9 5)).heap[w.heap.size]? = some (.cells c9 5 (0, 0)) := by
  show (w.heap.push _)[w.heap.size]? = _
  simp

theorem cellsR {W : World} {ab ao c : Nat} (h : RB W (.slice (some ⟨ab, ao, none⟩) 19 c) all17) (k x : Nat) (hx : all17[k]? = some x) : W.cell? ⟨ab, ao + k, none⟩ = some (.int .u8 (x : Nat)) := by
  obtain ⟨b, off, e, _, hc⟩ := RB.at h hx
  simp at e
  obtain ⟨rfl, rfl⟩ := e
  exact hc
end Go.Proofs.YtkffonoifbaifaaGreat
