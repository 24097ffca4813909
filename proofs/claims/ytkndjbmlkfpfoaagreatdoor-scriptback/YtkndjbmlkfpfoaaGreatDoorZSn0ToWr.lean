/-
  The scanner's frame, its open slots as one function, and what holds at each label.
-/
import Derived.Test.YtkndjbmlkfpfoaaGreatDoorZGj
import Derived.Test.YtkndjbmlkfpfoaaGreatDoorZSp
import Derived.Test.YtkndjbmlkfpfoaaGreatDoorZKn
import Derived.Test.YtkndjbmlkfpfoaaGreatDoorZSv
import Derived.Test.YtkndjbmlkfpfoaaGreatDoorZSrToSr2
import Derived.Test.YtkndjbmlkfpfoaaGreatDoorZPKToSw
import Derived.WalkMore
import Derived.Maps.AppendAt
import Derived.Deep.Slices
import Derived.OpenShut
import Derived.ChangeSame
import Derived.ChangeArms
import Derived.OwnWalk

set_option linter.unusedSimpArgs false
set_option linter.unusedVariables false
set_option maxRecDepth 100000
namespace Go.Proofs.YtkndjbmlkfpfoaaGreatDoor
open Go.RowKit Go.Lib
namespace Sn

def slotV (fc : Nat) (caps : Array Value) (Bs B i line n : Nat) (u : Nat → Value) (j : Nat) : Value := if j = 0 then Value.func (.func fc) #[] caps else if j = 1 then Value.pointer (some ⟨Bs, 0, none⟩) else if j = 3 then Value.pointer (some ⟨B, 0, none⟩) else if j = 5 then Value.int .i64 (i : Int) else if j = 7 then Value.int .i64 (line : Int) else if j = 8 then Value.int .i64 (n : Int) else u j
def fr (fc : Nat) (caps : Array Value) (Bs B i line n : Nat) (u : Nat → Value) : Act := { tmps := ((List.range 97).map (slotV fc caps Bs B i line n u)).toArray, defers := [] }
theorem fr_lit (fc : Nat) (caps : Array Value) (Bs B i line n : Nat) (u : Nat → Value) : fr fc caps Bs B i line n u = { tmps := List.toArray ((Value.func (.func fc) #[] caps) :: (Value.pointer (some ⟨Bs, 0, none⟩)) :: u 2 :: (Value.pointer (some ⟨B, 0, none⟩)) :: u 4 :: (Value.int .i64 (i : Int)) :: u 6 :: (Value.int .i64 (line : Int)) :: (Value.int .i64 (n : Int)) :: u 9 :: u 10 :: u 11 :: u 12 :: u 13 :: u 14 :: u 15 :: u 16 :: u 17 :: u 18 :: u 19 :: u 20 :: u 21 :: u 22 :: u 23 :: u 24 :: u 25 :: u 26 :: u 27 :: u 28 :: u 29 :: u 30 :: u 31 :: u 32 :: u 33 :: u 34 :: u 35 :: u 36 :: u 37 :: u 38 :: u 39 :: u 40 :: u 41 :: u 42 :: u 43 :: u 44 :: u 45 :: u 46 :: u 47 :: u 48 :: u 49 :: u 50 :: u 51 :: u 52 :: u 53 :: u 54 :: u 55 :: u 56 :: u 57 :: u 58 :: u 59 :: u 60 :: u 61 :: u 62 :: u 63 :: u 64 :: u 65 :: u 66 :: u 67 :: u 68 :: u 69 :: u 70 :: u 71 :: u 72 :: u 73 :: u 74 :: u 75 :: u 76 :: u 77 :: u 78 :: u 79 :: u 80 :: u 81 :: u 82 :: u 83 :: u 84 :: u 85 :: u 86 :: u 87 :: u 88 :: u 89 :: u 90 :: u 91 :: u 92 :: u 93 :: u 94 :: u 95 :: u 96 :: []), defers := [] } := by kernel_rfl

theorem fr_of (fc : Nat) (caps : Array Value) (Bs B i line n : Nat) (a : Act) (hd : a.defers = []) (hs : a.tmps.size = 97)
    (h0 : a.tmps[0]? = some (Value.func (.func fc) #[] caps))
    (h1 : a.tmps[1]? = some (Value.pointer (some ⟨Bs, 0, none⟩)))
    (h3 : a.tmps[3]? = some (Value.pointer (some ⟨B, 0, none⟩)))
    (h5 : a.tmps[5]? = some (Value.int .i64 (i : Int)))
    (h7 : a.tmps[7]? = some (Value.int .i64 (line : Int)))
    (h8 : a.tmps[8]? = some (Value.int .i64 (n : Int)))
    : a = fr fc caps Bs B i line n (fun j => a.tmps.getD j undef) := by
  obtain ⟨t, d⟩ := a
  simp only at *
  subst hd
  unfold fr
  congr 1
  apply Array.ext_getElem?
  intro j
  by_cases hj : j < 97
  · have e1 : t[j]? = some (t.getD j undef) := by
      have h' : j < t.size := by omega
      simp [h']
    have e2 : (((List.range 97).map (slotV fc caps Bs B i line n (fun j => t.getD j undef))).toArray)[j]? = some (slotV fc caps Bs B i line n (fun j => t.getD j undef) j) := by simp [hj]
    rw [e2]
    unfold slotV
    by_cases q0 : j = 0
    · rw [if_pos q0, q0]; exact h0
    rw [if_neg q0]
    by_cases q1 : j = 1
    · rw [if_pos q1, q1]; exact h1
    rw [if_neg q1]
    by_cases q3 : j = 3
    · rw [if_pos q3, q3]; exact h3
    rw [if_neg q3]
    by_cases q5 : j = 5
    · rw [if_pos q5, q5]; exact h5
    rw [if_neg q5]
    by_cases q7 : j = 7
    · rw [if_pos q7, q7]; exact h7
    rw [if_neg q7]
    by_cases q8 : j = 8
    · rw [if_pos q8, q8]; exact h8
    rw [if_neg q8]
    exact e1
  · rw [Array.getElem?_eq_none (by omega), Array.getElem?_eq_none (by simp; omega)]

def wdC (x : Wd) (line : Nat) : Array Value := #[.int .i64 (x.k : Int), .string x.t, .int .i64 x.n, .int .i64 (x.a : Int), .int .i64 (line : Int)]
/-- what holds at every label: what was handed on, and what is left -/
def SnI (J : List It → World → Prop) (s : ByteArray) (B i line n : Nat) (w' : World) : Prop :=
  i ≤ s.size ∧ n ≤ i ∧ line ≤ i + 1 ∧ (∃ pre, pre ++ scA s i line (decide (0 < n)) = scL s ∧ J pre w') ∧ Box5 w' B ∧ B < w'.heap.size

def At (J : List It → World → Prop) (s : ByteArray) (B : Nat) (l i line n : Nat) (u : Nat → Value) (w' : World) : Prop :=
  SnI J s B i line n w' ∧
  match l with
  | 0 => i < s.size → isLn (by_ s i) = true
  | 1 => True
  | 2 => i < s.size ∧ isLn (by_ s i) = false ∧ isBl (by_ s i) = false ∧ by_ s i = 35
  | 3 => i < s.size ∧ by_ s i = 34
  | _ => (i < s.size ∧ isLn (by_ s i) = false ∧ isBl (by_ s i) = false ∧ by_ s i ≠ 35) ∧ u 4 = .int .i64 ((wdAt s i).e : Int) ∧ u 6 = .int .i64 ((wdAt s i).nx : Int) ∧ w'.heap[B]? = some (.cells (wdC (wdAt s i) 0) 73 (0, 0))

def SnJ (fc : Nat) (caps : Array Value) (Bs B : Nat) (J : List It → World → Prop) (s : ByteArray) (l : Nat) (a' : Act) (w' : World) : Prop :=
  ∃ i line n u, a' = fr fc caps Bs B i line n u ∧ Hid (At J s B l i line n u w')

def SnM (s : ByteArray) (l : Nat) (a' : Act) : Nat := 8 * (s.size - (Lib.intOf (a'.tmps.getD 5 undef)).toNat) + (if l = 1 then 4 else if l = 0 then 1 else if l = 3 then 3 else 2)
theorem SnM_fr (s : ByteArray) (l : Nat) (fc : Nat) (caps : Array Value) (Bs B i line n : Nat) (u : Nat → Value) : SnM s l (fr fc caps Bs B i line n u) = 8 * (s.size - i) + (if l = 1 then 4 else if l = 0 then 1 else if l = 3 then 3 else 2) := by
  unfold SnM
  rw [show (fr fc caps Bs B i line n u).tmps.getD 5 undef = .int .i64 (i : Int) from rfl]
  simp [Lib.intOf]

theorem jump {fc : Nat} {caps : Array Value} {Bs B i line n M l : Nat} {J : List It → World → Prop} {s : ByteArray} {Q : Exit → Act → World → Prop} (a : Act) (w : World) (hl : l < 5) (hd : a.defers = []) (hs : a.tmps.size = 97)
    (h0 : a.tmps[0]? = some (Value.func (.func fc) #[] caps)) (h1 : a.tmps[1]? = some (Value.pointer (some ⟨Bs, 0, none⟩))) (h3 : a.tmps[3]? = some (Value.pointer (some ⟨B, 0, none⟩))) (h5 : a.tmps[5]? = some (Value.int .i64 (i : Int))) (h7 : a.tmps[7]? = some (Value.int .i64 (line : Int))) (h8 : a.tmps[8]? = some (Value.int .i64 (n : Int)))
    (H : At J s B l i line n (fun j => a.tmps.getD j undef) w) (hm : 8 * (s.size - i) + (if l = 1 then 4 else if l = 0 then 1 else if l = 3 then 3 else 2) < M) :
    Jumps (· < 5) (fun l' a' w' => SnJ fc caps Bs B J s l' a' w' ∧ SnM s l' a' < M) Q (.goto l) a w := by
  have e := fr_of fc caps Bs B i line n a hd hs h0 h1 h3 h5 h7 h8
  refine ⟨hl, ⟨i, line, n, _, e, hide H⟩, ?_⟩
  rw [e, SnM_fr]
  exact hm

/-- five labels; three of them are fallen into -/
theorem scope_five2 {P : Program} {a : Act} {w : World} {Q : Exit → Act → World → Prop} {c q0 q1 r2 r3 q4 : Code} (J : Nat → Act → World → Prop) (μ : Nat → Act → World → Nat)
    (h0 : findLabel c 0 = some (Code.seq .skip q0)) (h1 : findLabel c 1 = some (Code.seq .skip q1)) (h2 : findLabel c 2 = some r2) (h3 : findLabel c 3 = some r3) (h4 : findLabel c 4 = some (Code.seq .skip q4))
    (p0 : (∀ a w M, J 0 a w → μ 0 a w ≤ M → q0.wp P (Jumps (· < 5) (fun l' a' w' => J l' a' w' ∧ μ l' a' w' < M) Q) a w))
    (p4 : (∀ a w M, J 4 a w → μ 4 a w ≤ M → q4.wp P (Jumps (· < 5) (fun l' a' w' => J l' a' w' ∧ μ l' a' w' < M) Q) a w))
    (p1 : (∀ a w M, J 1 a w → μ 1 a w ≤ M → q1.wp P (Jumps (· < 5) (fun l' a' w' => J l' a' w' ∧ μ l' a' w' < M) Q) a w))
    (p2 : (∀ a w M, J 0 a w → μ 0 a w ≤ M → q0.wp P (Jumps (· < 5) (fun l' a' w' => J l' a' w' ∧ μ l' a' w' < M) Q) a w) → (∀ a w M, J 2 a w → μ 2 a w ≤ M → r2.wp P (Jumps (· < 5) (fun l' a' w' => J l' a' w' ∧ μ l' a' w' < M) Q) a w))
    (p3 : (∀ a w M, J 4 a w → μ 4 a w ≤ M → q4.wp P (Jumps (· < 5) (fun l' a' w' => J l' a' w' ∧ μ l' a' w' < M) Q) a w) → (∀ a w M, J 3 a w → μ 3 a w ≤ M → r3.wp P (Jumps (· < 5) (fun l' a' w' => J l' a' w' ∧ μ l' a' w' < M) Q) a w))
    (first : (∀ a w M, J 1 a w → μ 1 a w ≤ M → q1.wp P (Jumps (· < 5) (fun l' a' w' => J l' a' w' ∧ μ l' a' w' < M) Q) a w) → c.wp P (Jumps (· < 5) J Q) a w) : (Code.scope c).wp P Q a w :=
  scope_five J μ h0 h1 h2 h3 h4 (first p1) (fun a w h => wp_seq (wp_skip (p0 a w _ h (Nat.le_refl _)))) (fun a w h => wp_seq (wp_skip (p1 a w _ h (Nat.le_refl _)))) (fun a w h => p2 p0 a w _ h (Nat.le_refl _)) (fun a w h => p3 p4 a w _ h (Nat.le_refl _)) (fun a w h => wp_seq (wp_skip (p4 a w _ h (Nat.le_refl _))))

theorem drop_measure {P : Program} {J : Nat → Act → World → Prop} {μ : Nat → Act → World → Nat} {M : Nat} {Q : Exit → Act → World → Prop} {c : Code} {a : Act} {w : World} (h : c.wp P (Jumps (· < 5) (fun l' a' w' => J l' a' w' ∧ μ l' a' w' < M) Q) a w) : c.wp P (Jumps (· < 5) J Q) a w := by
  intro b k cs
  obtain ⟨e, a', w', hq, harr⟩ := h b k cs
  refine ⟨e, a', w', ?_, harr⟩
  cases e with
  | goto l => exact ⟨hq.1, hq.2.1⟩
  | normal => exact hq
  | exit id => exact hq
  | ret => exact hq
  | panic ch => exact hq
  | outgrown => exact hq

/-- five cells are written -/
theorem five_set {W : World} {b : Nat} (h : Box5 W b) (v0 v1 v2 v3 v4 : Value) : (((((W.setCell ⟨b, 0, none⟩ v0).setCell ⟨b, 1, none⟩ v1).setCell ⟨b, 2, none⟩ v2).setCell ⟨b, 3, none⟩ v3).setCell ⟨b, 4, none⟩ v4).heap[b]? = some (.cells #[v0, v1, v2, v3, v4] 73 (0, 0)) := by
  obtain ⟨c0, c1, c2, c3, c4, hc⟩ := h
  have e0 := heap_setCell_same W b 0 _ _ v0 hc
  have e1 := heap_setCell_same _ b 1 _ _ v1 e0
  have e2 := heap_setCell_same _ b 2 _ _ v2 e1
  have e3 := heap_setCell_same _ b 3 _ _ v3 e2
  have e4 := heap_setCell_same _ b 4 _ _ v4 e3
  rw [e4]
  rfl
end Sn
end Go.Proofs.YtkndjbmlkfpfoaaGreatDoor

/-
  Rows of words, rows of items.
-/
set_option linter.unusedSimpArgs false
set_option linter.unusedVariables false
namespace Go.Proofs.YtkndjbmlkfpfoaaGreatDoor
open Go.RowKit Go.Lib

theorem bnext {w W W' : World} (h : Below w.heap.size w W) (k : Below W.heap.size W W') : Below w.heap.size w W' := h.trans (k.mono h.size)
theorem bdrew {w W : World} (h : Below w.heap.size w W) (n : Nat) : Below w.heap.size w (W.drewN n) := ⟨h.os, h.tape, h.output, h.size, h.block⟩
theorem ballc {w W : World} (h : Below w.heap.size w W) (o : Obj) : Below w.heap.size w (W.alloc o) := h.alloc h.size _
theorem cell_lt {W : World} {p : Addr} {v : Value} (h : W.cell? p = some v) : p.block < W.heap.size := World.block_lt_of_cell? _ _ h
theorem cell_below {W W' : World} {a : Addr} {v : Value} (h : W.cell? a = some v) (hb : Below W.heap.size W W') : W'.cell? a = some v := by
  have hl := World.block_lt_of_cell? _ _ h
  rw [← h]
  unfold World.cell?
  rw [hb.block _ hl]

/-- the cells of some, one behind the other -/
def flat {α : Type} (enc : α → List Value) (l : List α) : List Value := l.flatMap enc
theorem flat_cons {α : Type} (enc : α → List Value) (x : α) (l : List α) : flat enc (x :: l) = enc x ++ flat enc l := rfl
theorem flat_append {α : Type} (enc : α → List Value) (l m : List α) : flat enc (l ++ m) = flat enc l ++ flat enc m := by simp [flat]
theorem flat_len {α : Type} {enc : α → List Value} {k : Nat} (hk : ∀ x, (enc x).length = k) : ∀ l : List α, (flat enc l).length = l.length * k
  | [] => by simp [flat]
  | x :: l => by rw [flat_cons, List.length_append, hk, flat_len hk l, List.length_cons, Nat.add_mul]; omega
theorem flat_get {α : Type} {enc : α → List Value} {k : Nat} (hk : ∀ x, (enc x).length = k) : ∀ (l : List α) (j i : Nat) (x : α), l[j]? = some x → i < k → (flat enc l)[j * k + i]? = (enc x)[i]?
  | [], j, i, x, h, _ => by simp at h
  | y :: l, 0, i, x, h, hi => by
    simp at h
    subst h
    rw [flat_cons, Nat.zero_mul, Nat.zero_add, List.getElem?_append_left (by rw [hk]; exact hi)]
  | y :: l, j + 1, i, x, h, hi => by
    rw [flat_cons, List.getElem?_append_right (by rw [hk, Nat.add_mul]; omega), hk, show (j + 1) * k + i - k = j * k + i by rw [Nat.add_mul]; omega]
    exact flat_get hk l j i x (by simpa using h) hi
theorem flat_at {α : Type} {enc : α → List Value} {k : Nat} (hk : ∀ x, (enc x).length = k) (k0 : 0 < k) {l : List α} {j : Nat} {v : Value} (h : (flat enc l)[j]? = some v) : ∃ x, l[j / k]? = some x ∧ (enc x)[j % k]? = some v := by
  have hj := (List.getElem?_eq_some_iff.1 h).1
  rw [flat_len hk] at hj
  have hlt : j / k < l.length := Nat.div_lt_of_lt_mul (by rw [Nat.mul_comm]; exact hj)
  refine ⟨l[j / k], List.getElem?_eq_getElem hlt, ?_⟩
  rw [← flat_get hk l (j / k) (j % k) _ (List.getElem?_eq_getElem hlt) (Nat.mod_lt _ k0), show j / k * k + j % k = j by have := Nat.div_add_mod j k; rw [Nat.mul_comm] at this; exact this]
  exact h
theorem flat_mem {α : Type} {enc : α → List Value} {l : List α} {v : Value} (h : v ∈ flat enc l) : ∃ x ∈ l, v ∈ enc x := by simpa [flat] using h
/-- a slice of n things holds these cells -/
def RC (W : World) (v : Value) (n : Nat) (C : List Value) : Prop :=
  (n = 0 ∧ ∃ a cap, v = .slice a 0 cap) ∨ ∃ b off cap, v = .slice (some ⟨b, off, none⟩) n cap ∧ n ≤ cap ∧ b < W.heap.size ∧ ∀ j x, C[j]? = some x → W.cell? ⟨b, off + j, none⟩ = some x
theorem RC.below {W W' : World} {v : Value} {n : Nat} {C : List Value} (h : RC W v n C) (hb : Below W.heap.size W W') : RC W' v n C := by
  rcases h with h | ⟨b, off, cap, e, hn, hl, hc⟩
  · exact .inl h
  · exact .inr ⟨b, off, cap, e, hn, Nat.lt_of_lt_of_le hl hb.size, fun j x hx => cell_below (hc j x hx) hb⟩
theorem RC.form {W : World} {v : Value} {n : Nat} {C : List Value} (h : RC W v n C) : ∃ a cap, v = .slice a n cap := by
  rcases h with ⟨rfl, a, c, e⟩ | ⟨b, off, c, e, _⟩
  · exact ⟨a, c, e⟩
  · exact ⟨_, _, e⟩
theorem RC.nil (W : World) (a : Option Addr) (c : Nat) : RC W (.slice a 0 c) 0 [] := .inl ⟨rfl, _, _, rfl⟩
theorem RC.of_owns {W : World} {B E k n : Nat} {v : Value} {C : List Value} (h : W.ownsRow B E k v n C) : RC W v n C := by
  have h0 := h
  obtain ⟨hl, (⟨rfl, hn⟩ | ⟨g, cap, cur, rfl, hbg, hg, hc1, hc2, hc3, hc4⟩)⟩ := h
  · exact .inl ⟨hn, _, _, rfl⟩
  · refine .inr ⟨g, 0, cap, rfl, by omega, (Array.getElem?_eq_some_iff.1 hg).1, fun j x hx => ?_⟩
    have hj := (List.getElem?_eq_some_iff.1 hx).1
    rw [Nat.zero_add]
    exact (h0.cellAt j (by omega)).trans hx
theorem RC.len {W : World} {a : Option Addr} {n m cap : Nat} {C : List Value} (h : RC W (.slice a m cap) n C) : m = n := by
  obtain ⟨a', c', e⟩ := h.form
  simp at e
  exact e.2.1

/-- all blocks stay but those of N, and new ones come -/
structure Kp (N : Nat → Prop) (W W' : World) : Prop where
  os : W'.os = W.os
  tape : W'.tape = W.tape
  output : W'.output = W.output
  size : W.heap.size ≤ W'.heap.size
  block : ∀ k, k < W.heap.size → ¬ N k → W'.heap[k]? = W.heap[k]?
theorem Kp.refl (N : Nat → Prop) (W : World) : Kp N W W := ⟨rfl, rfl, rfl, Nat.le_refl _, fun _ _ _ => rfl⟩
theorem Kp.trans {N M : Nat → Prop} {a b c : World} (h : Kp N a b) (k : Kp M b c) (hm : ∀ i, M i → N i ∨ a.heap.size ≤ i) : Kp N a c :=
  ⟨k.os.trans h.os, k.tape.trans h.tape, k.output.trans h.output, Nat.le_trans h.size k.size, fun i hi hn =>
    (k.block i (Nat.lt_of_lt_of_le hi h.size) (fun e => by rcases hm i e with h' | h'; exact hn h'; omega)).trans (h.block i hi hn)⟩
theorem Kp.of_below {N : Nat → Prop} {W W' : World} (h : Below W.heap.size W W') : Kp N W W' := ⟨h.os, h.tape, h.output, h.size, fun k hk _ => h.block k hk⟩
theorem Kp.of_grown {N : Nat → Prop} {W W' : World} {row : Option Nat} (h : W.grownBy W' row) (hr : ∀ k, row = some k → N k) : Kp N W W' :=
  ⟨h.os, h.tape, h.output, h.size, fun k hk hn => h.block k hk (fun e => hn (hr k e.symm))⟩
theorem Kp.set {N : Nat → Prop} (W : World) (a : Addr) (v : Value) (h : N a.block) : Kp N W (W.setCell a v) := by
  have b := Below.setCell (Below.refl 0 W) (Nat.zero_le a.block) v
  exact ⟨b.os, b.tape, b.output, b.size, fun k hk hn => Below.heap_setCell W a v k (fun e => hn (e ▸ h))⟩
theorem Kp.drew {N : Nat → Prop} {W W' : World} (h : Kp N W W') : Kp N W W'.drew := ⟨h.os, h.tape, h.output, h.size, h.block⟩
theorem Kp.wk {N N' : Nat → Prop} {W W' : World} (h : Kp N W W') (hn : ∀ i, N i → N' i) : Kp N' W W' := ⟨h.os, h.tape, h.output, h.size, fun k hk hk' => h.block k hk (fun e => hk' (hn k e))⟩
theorem Kp.below {N : Nat → Prop} {w W W' : World} (k : Kp N W W') (h : Below w.heap.size w W) (hn : ∀ i, N i → w.heap.size ≤ i) : Below w.heap.size w W' :=
  ⟨k.os.trans h.os, k.tape.trans h.tape, k.output.trans h.output, Nat.le_trans h.size k.size, fun i hi => (k.block i (Nat.lt_of_lt_of_le hi h.size) (fun e => by have := hn i e; omega)).trans (h.block i hi)⟩
theorem Bq.kp {N : Nat → Prop} {W W' : World} {b : Nat} {t : TypeId} {vs : Array Value} (h : Bq W b t vs) (k : Kp N W W') (hn : ¬ N b) : Bq W' b t vs := (k.block b h.lt hn).trans h

theorem owns_kp {N : Nat → Prop} {W W' : World} {B E k n : Nat} {v : Value} {C : List Value} (h : W.ownsRow B E k v n C) (kp : Kp N W W') (hn : ∀ i, v.ownBlock = some i → ¬ N i) : W'.ownsRow B E k v n C := by
  obtain ⟨hl, (h | ⟨g, cap, cur, rfl, hbg, hg, hr⟩)⟩ := h
  · exact ⟨hl, .inl h⟩
  · exact ⟨hl, .inr ⟨g, cap, cur, rfl, hbg, (kp.block g (Array.getElem?_eq_some_iff.1 hg).1 (hn g rfl)).trans hg, hr⟩⟩
theorem owns_form {W : World} {B E k n : Nat} {v : Value} {C : List Value} (h : W.ownsRow B E k v n C) : ∃ a c, v = .slice a n c := by
  obtain ⟨_, (⟨rfl, hn⟩ | ⟨g, cap, cur, rfl, _⟩)⟩ := h
  · exact ⟨none, 0, by rw [hn]⟩
  · exact ⟨_, _, rfl⟩

theorem owns_wk {W : World} {B B' E k n : Nat} {v : Value} {C : List Value} (h : W.ownsRow B E k v n C) (hb : B' ≤ B) : W.ownsRow B' E k v n C := by
  obtain ⟨h1, h2⟩ := h
  refine ⟨h1, ?_⟩
  rcases h2 with h2 | ⟨g, cap, cur, e, hbg, hg, hc1, hc2, hc3, hc4⟩
  · exact .inl h2
  · exact .inr ⟨g, cap, cur, e, Nat.le_trans hb hbg, hg, hc1, hc2, hc3, hc4⟩
theorem owns_some {W : World} {B E k n : Nat} {v : Value} {C : List Value} (h : W.ownsRow B E k v n C) (hn : 0 < n) : ∃ g c, v = .slice (some ⟨g, 0, none⟩) n c ∧ n ≤ c ∧ ∃ cur, Bq W g E cur := by
  obtain ⟨_, (⟨_, h0⟩ | ⟨g, cap, cur, e, _, hg, hc, _⟩)⟩ := h
  · omega
  · exact ⟨g, cap, e, hc, cur, hg⟩
theorem wpList_append_eq {w : World} {ops : Array Oper} {rest : List Oper} {o : Oper} {a : Act} {Q : Exit → Act → World → Prop} (hgd : o.guard = none) (s x : Operand) (t t' : TypeId)
    (ho : o.op = .call { callee := .builtin .append, args := #[s, x], argTypes := #[t, t'] }) (v u v' : Value) (w' : World) (hs : a.eval s = v) (hx : a.eval x = u) (hr : (Builtin.append_ #[t, t'] o.type #[v, u]).run Tryz.prog w = .ok v' w')
    (h : wpList Tryz.prog ops Q rest (a.put o.dst v') w') : wpList Tryz.prog ops Q (o :: rest) a w := by
  refine wpList_plain hgd fun K hK => ?_
  unfold Oper.wp execOp
  simp only [ho, resolve, invoke, builtin, Sem.run_bind, Sem.run_pure, Result.andThen_ok, List.map_toArray, List.map_cons, List.map_nil, hs, hx, hr]
  exact hK _ _ h
def in64 (n : Int) : Prop := -9223372036854775808 ≤ n ∧ n ≤ 9223372036854775807
theorem wf64 {n : Int} (h : (Lit.int .i64 n).wf = true) : in64 n := by
  simp [Lit.wf, IntKind.min, IntKind.max, IntKind.bits, IntKind.signed] at h
  unfold in64
  omega
theorem mk_each {α : Type} [Inhabited α] {enc : α → List Value} {k : Nat} (hk : ∀ x, (enc x).length = k) (k0 : 0 < k) {Pr : α → Prop} {w : World} {ad : Addr} {len cap : Nat} (hlc : len ≤ cap)
    (each : ∀ i, i < len → ∃ e : α, (∀ q x, (enc e)[q]? = some x → w.cell? (ad.add (i * k + q)) = some x) ∧ Pr e) : ∃ l : List α, RC w (.slice (some ad) len cap) l.length (flat enc l) ∧ l.length = len ∧ ∀ e ∈ l, Pr e := by
  obtain ⟨q, hq⟩ := Go.Deep.choose_lt each
  have hll : ((List.range len).map q).length = len := by simp
  refine ⟨(List.range len).map q, ?_, hll, fun e he => ?_⟩
  · by_cases h0 : len = 0
    · subst h0; exact .inl ⟨by simp, _, _, rfl⟩
    · obtain ⟨b, off, spot⟩ := ad
      have h00 : ∃ x, (enc (q 0))[0]? = some x := ⟨(enc (q 0))[0]'(by rw [hk]; exact k0), List.getElem?_eq_getElem _⟩
      obtain ⟨x0, hx0⟩ := h00
      have hc0 := (hq 0 (by omega)).1 0 x0 hx0
      have hspot : spot = none := by simpa [Addr.add] using World.cell?_spot hc0
      subst hspot
      rw [Go.WideShapes.add_plain] at hc0
      rw [hll]
      refine .inr ⟨b, off, cap, rfl, hlc, cell_lt hc0, fun j x hx => ?_⟩
      obtain ⟨e, he1, he2⟩ := flat_at hk k0 hx
      have hj : j / k < len := by have := (List.getElem?_eq_some_iff.1 he1).1; rwa [hll] at this
      have hje : q (j / k) = e := by
        rw [List.getElem?_map, List.getElem?_range hj] at he1
        simpa using he1
      have := (hq (j / k) hj).1 (j % k) x (by rw [hje]; exact he2)
      rw [Go.WideShapes.add_plain, show j / k * k + j % k = j by have := Nat.div_add_mod j k; rw [Nat.mul_comm] at this; exact this] at this
      exact this
  · obtain ⟨j, hj, rfl⟩ := List.mem_map.1 he
    exact (hq j (List.mem_range.1 hj)).2


/-- a word's cells -/
def encW (x : It) : List Value := [.int .i64 (x.w.k : Int), .string x.w.t, .int .i64 x.w.n, .int .i64 (x.w.a : Int), .int .i64 (x.ln : Int)]
theorem encW_len (x : It) : (encW x).length = 5 := rfl
/-- a row of words of one's own -/
def OwW (W : World) (B : Nat) (v : Value) (l : List It) : Prop := W.ownsRow B 73 5 v l.length (flat encW l)
theorem info_parts5 {P : Program} {t : TypeId} {z : Value} {a b : Nat} (h : (P.info? t).map (fun i => (i.zero, i.size, i.bytes)) = some (some z, a, b)) : ∃ i, P.info? t = some i ∧ i.zero = some z ∧ i.size = a ∧ i.bytes = b := by
  cases hi : P.info? t with
  | none => rw [hi] at h; cases h
  | some i =>
    rw [hi] at h
    simp at h
    exact ⟨i, rfl, h.1, h.2.1, h.2.2⟩
theorem infoWd : (Tryz.prog.info? 73).map (fun i => (i.zero, i.size, i.bytes)) = some (some (.agg #[.int .i64 0, .string ⟨#[]⟩, .int .i64 0, .int .i64 0, .int .i64 0]), 5, 48) := by kernel_rfl
/-- append(l, x) of a word -/
theorem append_word (w : World) (ty : TypeId) (N : Nat) (v : Value) (l : List It) (x : It) (nb : Nat) (h : OwW w N v l) (hbx : Bq w nb 73 (encW x).toArray) (hN : N ≤ w.heap.size) (hl : l.length ≤ 1000000) :
    ∃ v' w', (Builtin.append_ #[66, 66] ty #[v, .slice (some ⟨nb, 0, none⟩) 1 1]).run Tryz.prog w = .ok v' w' ∧ OwW w' N v' (l ++ [x]) ∧ w.grownBy w' v.ownBlock ∧ (v'.ownBlock = v.ownBlock ∨ v'.ownBlock = some w.heap.size) := by
  obtain ⟨i0, hi, hz0, hz1, hz2⟩ := info_parts5 infoWd
  obtain ⟨v', w', h1, h2, h3, h4, h5⟩ := run_append_own_at (P := Tryz.prog) w N 66 ty 73 i0 _ 5 48 Tryz.underlying66 hi hz0 hz1 hz2 rfl (by decide) v l.length _ h ⟨nb, 0, none⟩ 1 1 (encW x) rfl (fun j u hu => by
    rw [Addr.add_lit, Nat.zero_add]
    exact hbx.cell j u (by rw [← hu]; simp)) (fun u hu => by simp [encW] at hu; rcases hu with rfl | rfl | rfl | rfl | rfl <;> rfl) (by unfold maxLen; omega) (by omega) (by first | omega | (simp; omega))
  refine ⟨v', w', h1, ?_, h3, h5⟩
  unfold OwW
  rw [flat_append, List.length_append]
  simpa [flat] using h2

/-- an item of the law's -/
structure Im where
  kind : Int
  text : ByteArray
  num : Int
  ahead : Int
  en : Int
def encI (s : Im) : List Value := [.int .i64 s.kind, .string s.text, .int .i64 s.num, .int .i64 s.ahead, .int .i64 s.en]
theorem encI_len (s : Im) : (encI s).length = 5 := rfl
def RIm (W : World) (v : Value) (l : List Im) : Prop := RC W v l.length (flat encI l)
theorem RIm.below {W W' : World} {v : Value} {l : List Im} (h : RIm W v l) (hb : Below W.heap.size W W') : RIm W' v l := RC.below h hb
theorem RIm.at {W : World} {a : Option Addr} {n c : Nat} {l : List Im} (h : RIm W (.slice a n c) l) {i : Nat} {e : Im} (hi : l[i]? = some e) : ∃ b off, a = some ⟨b, off, none⟩ ∧ b < W.heap.size ∧ W.cell? ⟨b, off + i * 5, none⟩ = some (.int .i64 e.kind) ∧ W.cell? ⟨b, off + i * 5 + 1, none⟩ = some (.string e.text) ∧ W.cell? ⟨b, off + i * 5 + 2, none⟩ = some (.int .i64 e.num) ∧ W.cell? ⟨b, off + i * 5 + 3, none⟩ = some (.int .i64 e.ahead) ∧ W.cell? ⟨b, off + i * 5 + 4, none⟩ = some (.int .i64 e.en) := by
  have hl := (List.getElem?_eq_some_iff.1 hi).1
  rcases h with ⟨h0, _⟩ | ⟨b, off, cap, e', h1, h2, hc⟩
  · omega
  · simp at e'
    obtain ⟨rfl, _⟩ := e'
    have f := fun q (hq : q < 5) v (hv : (encI e)[q]? = some v) => hc (i * 5 + q) v ((flat_get encI_len l i q e hi hq).trans hv)
    exact ⟨b, off, rfl, h2, f 0 (by omega) _ rfl, f 1 (by omega) _ rfl, f 2 (by omega) _ rfl, f 3 (by omega) _ rfl, f 4 (by omega) _ rfl⟩
end Go.Proofs.YtkndjbmlkfpfoaaGreatDoor
