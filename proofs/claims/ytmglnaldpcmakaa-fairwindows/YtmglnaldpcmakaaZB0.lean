/-
  Worlds that go on; rows of cells.
-/
import Derived.Test.YtmglnaldpcmakaaProg
import Derived.WalkKit
import Derived.WalkMore
import Derived.WalkSpells
import Derived.WalkLawsBesides
import Derived.LoopN
import Derived.Deep.QuietTactic
import Derived.BigQuiet
import Derived.Laws.StructEq
import Derived.Below
import Derived.OwnWalk
set_option linter.unusedSimpArgs false
set_option linter.unusedVariables false
namespace Go.Proofs.Ytmglnaldpcmakaa
open Go.RowKit Go.Lib

theorem hide {p : Prop} (h : p) : Hid p := h
theorem unhide {p : Prop} (h : Hid p) : p := h

theorem bnext {w W W' : World} (h : Below w.heap.size w W) (k : Below W.heap.size W W') : Below w.heap.size w W' := h.trans (k.mono h.size)
theorem bdrew {w W : World} (h : Below w.heap.size w W) (n : Nat) : Below w.heap.size w (W.drewN n) := ⟨h.os, h.tape, h.output, h.size, h.block⟩
theorem ballc {w W : World} (h : Below w.heap.size w W) (o : Obj) : Below w.heap.size w (W.alloc o) := h.alloc h.size _
theorem bset {w W : World} (h : Below w.heap.size w W) (p : Addr) (hp : w.heap.size ≤ p.block) (u : Value) : Below w.heap.size w (W.setCell p u) := h.setCell hp u

theorem cell_lt {W : World} {p : Addr} {v : Value} (h : W.cell? p = some v) : p.block < W.heap.size := World.block_lt_of_cell? _ _ h
theorem cell_below {W W' : World} {a : Addr} {v : Value} (h : W.cell? a = some v) (hb : Below W.heap.size W W') : W'.cell? a = some v := by
  have hl := World.block_lt_of_cell? _ _ h
  rw [← h]
  unfold World.cell?
  rw [hb.block _ hl]

/-- a block of cells of one's own -/
def Bx (W : World) (b : Nat) (t : TypeId) (vs : Array Value) : Prop := W.heap[b]? = some (.cells vs t (0, 0))
theorem Bx.new (W : World) (t : TypeId) (vs : Array Value) : Bx (W.alloc (.cells vs t)) W.heap.size t vs := heap_alloc_new W _
theorem Bx.lt {W : World} {b : Nat} {t : TypeId} {vs : Array Value} (h : Bx W b t vs) : b < W.heap.size := (Array.getElem?_eq_some_iff.1 h).1
theorem Bx.below {W W' : World} {b : Nat} {t : TypeId} {vs : Array Value} (h : Bx W b t vs) (hb : Below W.heap.size W W') : Bx W' b t vs := (hb.block _ h.lt).trans h
theorem Bx.keep {W W' : World} {B b : Nat} {t : TypeId} {vs : Array Value} (h : Bx W b t vs) (hb : Below B W W') (hl : b < B) : Bx W' b t vs := (hb.block _ hl).trans h
theorem Bx.cell {W : World} {b : Nat} {t : TypeId} {vs : Array Value} (h : Bx W b t vs) (j : Nat) (v : Value) (hj : vs[j]? = some v) : W.cell? ⟨b, j, none⟩ = some v := by
  have e : W.heap[b]? = some (.cells vs t (0, 0)) := h
  simp [World.cell?, e, hj]
theorem Bx.frozen {W : World} {b : Nat} {t : TypeId} {vs : Array Value} (h : Bx W b t vs) (j : Nat) : W.frozen? ⟨b, j, none⟩ = false := by
  have e : W.heap[b]? = some (.cells vs t (0, 0)) := h
  simp [World.frozen?, e]
theorem Bx.set {W : World} {b : Nat} {t : TypeId} {vs : Array Value} (h : Bx W b t vs) (j : Nat) (v : Value) : Bx (W.setCell ⟨b, j, none⟩ v) b t (vs.setIfInBounds j v) := by
  have e : W.heap[b]? = some (.cells vs t (0, 0)) := h
  unfold Bx
  simp [World.setCell, e, Array.getElem?_modify]
theorem Bx.setO {W : World} {b : Nat} {t : TypeId} {vs : Array Value} (h : Bx W b t vs) (p : Addr) (hp : b ≠ p.block) (v : Value) : Bx (W.setCell p v) b t vs := (Below.heap_setCell W p v b hp).trans h

/-- the cells of some, one behind the other -/
def flat {α : Type} (enc : α → List Value) (l : List α) : List Value := l.flatMap enc
theorem flat_nil {α : Type} (enc : α → List Value) : flat enc [] = [] := rfl
theorem flat_cons {α : Type} (enc : α → List Value) (x : α) (l : List α) : flat enc (x :: l) = enc x ++ flat enc l := rfl
theorem flat_append {α : Type} (enc : α → List Value) (l m : List α) : flat enc (l ++ m) = flat enc l ++ flat enc m := by simp [flat]
theorem flat_len {α : Type} {enc : α → List Value} {k : Nat} (hk : ∀ x, (enc x).length = k) : ∀ l : List α, (flat enc l).length = l.length * k
  | [] => by simp [flat]
  | x :: l => by rw [flat_cons, List.length_append, hk, flat_len hk l, List.length_cons, Nat.add_mul]; omega
theorem flat_get {α : Type} {enc : α → List Value} {k : Nat} (hk : ∀ x, (enc x).length = k) : ∀ (l : List α) (j i : Nat) (x : α), l[j]? = some x → i < k → (flat enc l)[j * k + i]? = (enc x)[i]?
  | [], j, i, x, h, _ => by simp at h
  | y :: l, 0, i, x, h, hi => by
    simp at h
    subst h
    rw [flat_cons, Nat.zero_mul, Nat.zero_add, List.getElem?_append_left (by rw [hk]; exact hi)]
  | y :: l, j + 1, i, x, h, hi => by
    rw [flat_cons, List.getElem?_append_right (by rw [hk, Nat.add_mul]; omega), hk, show (j + 1) * k + i - k = j * k + i by rw [Nat.add_mul]; omega]
    exact flat_get hk l j i x (by simpa using h) hi
theorem flat_at {α : Type} {enc : α → List Value} {k : Nat} (hk : ∀ x, (enc x).length = k) (k0 : 0 < k) {l : List α} {j : Nat} {v : Value} (h : (flat enc l)[j]? = some v) : ∃ x, l[j / k]? = some x ∧ (enc x)[j % k]? = some v := by
  have hj := (List.getElem?_eq_some_iff.1 h).1
  rw [flat_len hk] at hj
  have hlt : j / k < l.length := Nat.div_lt_of_lt_mul (by rw [Nat.mul_comm]; exact hj)
  refine ⟨l[j / k], List.getElem?_eq_getElem hlt, ?_⟩
  rw [← flat_get hk l (j / k) (j % k) _ (List.getElem?_eq_getElem hlt) (Nat.mod_lt _ k0), show j / k * k + j % k = j by have := Nat.div_add_mod j k; rw [Nat.mul_comm] at this; exact this]
  exact h
theorem flat_mem {α : Type} {enc : α → List Value} {l : List α} {v : Value} (h : v ∈ flat enc l) : ∃ x ∈ l, v ∈ enc x := by simpa [flat] using h
theorem flat_take {α : Type} {enc : α → List Value} {k : Nat} (hk : ∀ x, (enc x).length = k) : ∀ (l : List α) (n : Nat), flat enc (l.take n) = (flat enc l).take (n * k)
  | [], n => by simp [flat]
  | x :: l, 0 => by simp [flat]
  | x :: l, n + 1 => by
    rw [List.take_succ_cons, flat_cons, flat_cons, flat_take hk l n, List.take_append, hk, show (n + 1) * k - k = n * k by rw [Nat.add_mul]; omega]
    congr 1
    exact (List.take_of_length_le (by rw [hk, Nat.add_mul]; omega)).symm

/-- a slice of n things holds these cells -/
def RC (W : World) (v : Value) (n : Nat) (C : List Value) : Prop :=
  (n = 0 ∧ ∃ a cap, v = .slice a 0 cap) ∨ ∃ b off cap, v = .slice (some ⟨b, off, none⟩) n cap ∧ n ≤ cap ∧ b < W.heap.size ∧ ∀ j x, C[j]? = some x → W.cell? ⟨b, off + j, none⟩ = some x
theorem RC.below {W W' : World} {v : Value} {n : Nat} {C : List Value} (h : RC W v n C) (hb : Below W.heap.size W W') : RC W' v n C := by
  rcases h with h | ⟨b, off, cap, e, hn, hl, hc⟩
  · exact .inl h
  · exact .inr ⟨b, off, cap, e, hn, Nat.lt_of_lt_of_le hl hb.size, fun j x hx => cell_below (hc j x hx) hb⟩
theorem RC.form {W : World} {v : Value} {n : Nat} {C : List Value} (h : RC W v n C) : ∃ a cap, v = .slice a n cap := by
  rcases h with ⟨rfl, a, c, e⟩ | ⟨b, off, c, e, _⟩
  · exact ⟨a, c, e⟩
  · exact ⟨_, _, e⟩
theorem RC.nil (W : World) (a : Option Addr) (c : Nat) : RC W (.slice a 0 c) 0 [] := .inl ⟨rfl, _, _, rfl⟩
theorem RC.of_owns {W : World} {B E k n : Nat} {v : Value} {C : List Value} (h : W.ownsRow B E k v n C) : RC W v n C := by
  have h0 := h
  obtain ⟨hl, (⟨rfl, hn⟩ | ⟨g, cap, cur, rfl, hbg, hg, hc1, hc2, hc3, hc4⟩)⟩ := h
  · exact .inl ⟨hn, _, _, rfl⟩
  · refine .inr ⟨g, 0, cap, rfl, by omega, (Array.getElem?_eq_some_iff.1 hg).1, fun j x hx => ?_⟩
    have hj := (List.getElem?_eq_some_iff.1 hx).1
    rw [Nat.zero_add]
    exact (h0.cellAt j (by omega)).trans hx
theorem RC.len {W : World} {a : Option Addr} {n m cap : Nat} {C : List Value} (h : RC W (.slice a m cap) n C) : m = n := by
  obtain ⟨a', c', e⟩ := h.form
  simp at e
  exact e.2.1

end Go.Proofs.Ytmglnaldpcmakaa
