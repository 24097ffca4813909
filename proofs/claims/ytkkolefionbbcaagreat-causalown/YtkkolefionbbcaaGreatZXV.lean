/-
  Worlds that go on; rows of cells.
-/
import Derived.Test.YtkkolefionbbcaaGreatProg
import Derived.WalkKit
import Derived.WalkMore
import Derived.WalkSpells
import Derived.WalkLawsBesides
import Derived.LoopN
import Derived.Deep.QuietTactic
import Derived.BigQuiet
import Derived.Laws.StructEq
import Derived.Below
import Derived.OwnWalk
import Derived.Maps.AppendAt
import Derived.Lib.AppendStr
import Derived.Lib.Varint
import Derived.Deep.WholeRow
import Derived.Deep.RegionWith

set_option linter.unusedSimpArgs false
set_option linter.unusedVariables false
namespace Go.Proofs.YtkkolefionbbcaaGreat
open Go.RowKit Go.Lib

theorem hide {p : Prop} (h : p) : Hid p := h
theorem unhide {p : Prop} (h : Hid p) : p := h

theorem bnext {w W W' : World} (h : Below w.heap.size w W) (k : Below W.heap.size W W') : Below w.heap.size w W' := h.trans (k.mono h.size)
theorem bdrew {w W : World} (h : Below w.heap.size w W) (n : Nat) : Below w.heap.size w (W.drewN n) := ⟨h.os, h.tape, h.output, h.size, h.block⟩
theorem ballc {w W : World} (h : Below w.heap.size w W) (o : Obj) : Below w.heap.size w (W.alloc o) := h.alloc h.size _
theorem bset {w W : World} (h : Below w.heap.size w W) (p : Addr) (hp : w.heap.size ≤ p.block) (u : Value) : Below w.heap.size w (W.setCell p u) := h.setCell hp u

theorem cell_lt {W : World} {p : Addr} {v : Value} (h : W.cell? p = some v) : p.block < W.heap.size := World.block_lt_of_cell? _ _ h
theorem cell_below {W W' : World} {a : Addr} {v : Value} (h : W.cell? a = some v) (hb : Below W.heap.size W W') : W'.cell? a = some v := by
  have hl := World.block_lt_of_cell? _ _ h
  rw [← h]
  unfold World.cell?
  rw [hb.block _ hl]

/-- a block of cells of one's own -/
def Bx (W : World) (b : Nat) (t : TypeId) (vs : Array Value) : Prop := W.heap[b]? = some (.cells vs t (0, 0))
theorem Bx.new (W : World) (t : TypeId) (vs : Array Value) : Bx (W.alloc (.cells vs t)) W.heap.size t vs := heap_alloc_new W _
theorem Bx.lt {W : World} {b : Nat} {t : TypeId} {vs : Array Value} (h : Bx W b t vs) : b < W.heap.size := (Array.getElem?_eq_some_iff.1 h).1
theorem Bx.below {W W' : World} {b : Nat} {t : TypeId} {vs : Array Value} (h : Bx W b t vs) (hb : Below W.heap.size W W') : Bx W' b t vs := (hb.block _ h.lt).trans h
theorem Bx.keep {W W' : World} {B b : Nat} {t : TypeId} {vs : Array Value} (h : Bx W b t vs) (hb : Below B W W') (hl : b < B) : Bx W' b t vs := (hb.block _ hl).trans h
theorem Bx.cell {W : World} {b : Nat} {t : TypeId} {vs : Array Value} (h : Bx W b t vs) (j : Nat) (v : Value) (hj : vs[j]? = some v) : W.cell? ⟨b, j, none⟩ = some v := by
  have e : W.heap[b]? = some (.cells vs t (0, 0)) := h
  simp [World.cell?, e, hj]
theorem Bx.frozen {W : World} {b : Nat} {t : TypeId} {vs : Array Value} (h : Bx W b t vs) (j : Nat) : W.frozen? ⟨b, j, none⟩ = false := by
  have e : W.heap[b]? = some (.cells vs t (0, 0)) := h
  simp [World.frozen?, e]
theorem Bx.set {W : World} {b : Nat} {t : TypeId} {vs : Array Value} (h : Bx W b t vs) (j : Nat) (v : Value) : Bx (W.setCell ⟨b, j, none⟩ v) b t (vs.setIfInBounds j v) := by
  have e : W.heap[b]? = some (.cells vs t (0, 0)) := h
  unfold Bx
  simp [World.setCell, e, Array.getElem?_modify]
theorem Bx.setO {W : World} {b : Nat} {t : TypeId} {vs : Array Value} (h : Bx W b t vs) (p : Addr) (hp : b ≠ p.block) (v : Value) : Bx (W.setCell p v) b t vs := (Below.heap_setCell W p v b hp).trans h

/-- the cells of some, one behind the other -/
def flat {α : Type} (enc : α → List Value) (l : List α) : List Value := l.flatMap enc
theorem flat_nil {α : Type} (enc : α → List Value) : flat enc [] = [] := rfl
theorem flat_cons {α : Type} (enc : α → List Value) (x : α) (l : List α) : flat enc (x :: l) = enc x ++ flat enc l := rfl
theorem flat_append {α : Type} (enc : α → List Value) (l m : List α) : flat enc (l ++ m) = flat enc l ++ flat enc m := by simp [flat]
theorem flat_len {α : Type} {enc : α → List Value} {k : Nat} (hk : ∀ x, (enc x).length = k) : ∀ l : List α, (flat enc l).length = l.length * k
  | [] => by simp [flat]
  | x :: l => by rw [flat_cons, List.length_append, hk, flat_len hk l, List.length_cons, Nat.add_mul]; omega
theorem flat_get {α : Type} {enc : α → List Value} {k : Nat} (hk : ∀ x, (enc x).length = k) : ∀ (l : List α) (j i : Nat) (x : α), l[j]? = some x → i < k → (flat enc l)[j * k + i]? = (enc x)[i]?
  | [], j, i, x, h, _ => by simp at h
  | y :: l, 0, i, x, h, hi => by
    simp at h
    subst h
    rw [flat_cons, Nat.zero_mul, Nat.zero_add, List.getElem?_append_left (by rw [hk]; exact hi)]
  | y :: l, j + 1, i, x, h, hi => by
    rw [flat_cons, List.getElem?_append_right (by rw [hk, Nat.add_mul]; omega), hk, show (j + 1) * k + i - k = j * k + i by rw [Nat.add_mul]; omega]
    exact flat_get hk l j i x (by simpa using h) hi
theorem flat_at {α : Type} {enc : α → List Value} {k : Nat} (hk : ∀ x, (enc x).length = k) (k0 : 0 < k) {l : List α} {j : Nat} {v : Value} (h : (flat enc l)[j]? = some v) : ∃ x, l[j / k]? = some x ∧ (enc x)[j % k]? = some v := by
  have hj := (List.getElem?_eq_some_iff.1 h).1
  rw [flat_len hk] at hj
  have hlt : j / k < l.length := Nat.div_lt_of_lt_mul (by rw [Nat.mul_comm]; exact hj)
  refine ⟨l[j / k], List.getElem?_eq_getElem hlt, ?_⟩
  rw [← flat_get hk l (j / k) (j % k) _ (List.getElem?_eq_getElem hlt) (Nat.mod_lt _ k0), show j / k * k + j % k = j by have := Nat.div_add_mod j k; rw [Nat.mul_comm] at this; exact this]
  exact h
theorem flat_mem {α : Type} {enc : α → List Value} {l : List α} {v : Value} (h : v ∈ flat enc l) : ∃ x ∈ l, v ∈ enc x := by simpa [flat] using h
theorem flat_take {α : Type} {enc : α → List Value} {k : Nat} (hk : ∀ x, (enc x).length = k) : ∀ (l : List α) (n : Nat), flat enc (l.take n) = (flat enc l).take (n * k)
  | [], n => by simp [flat]
  | x :: l, 0 => by simp [flat]
  | x :: l, n + 1 => by
    rw [List.take_succ_cons, flat_cons, flat_cons, flat_take hk l n, List.take_append, hk, show (n + 1) * k - k = n * k by rw [Nat.add_mul]; omega]
    congr 1
    exact (List.take_of_length_le (by rw [hk, Nat.add_mul]; omega)).symm

/-- a slice of n things holds these cells -/
def RC (W : World) (v : Value) (n : Nat) (C : List Value) : Prop :=
  (n = 0 ∧ ∃ a cap, v = .slice a 0 cap) ∨ ∃ b off cap, v = .slice (some ⟨b, off, none⟩) n cap ∧ n ≤ cap ∧ b < W.heap.size ∧ ∀ j x, C[j]? = some x → W.cell? ⟨b, off + j, none⟩ = some x
theorem RC.below {W W' : World} {v : Value} {n : Nat} {C : List Value} (h : RC W v n C) (hb : Below W.heap.size W W') : RC W' v n C := by
  rcases h with h | ⟨b, off, cap, e, hn, hl, hc⟩
  · exact .inl h
  · exact .inr ⟨b, off, cap, e, hn, Nat.lt_of_lt_of_le hl hb.size, fun j x hx => cell_below (hc j x hx) hb⟩
theorem RC.form {W : World} {v : Value} {n : Nat} {C : List Value} (h : RC W v n C) : ∃ a cap, v = .slice a n cap := by
  rcases h with ⟨rfl, a, c, e⟩ | ⟨b, off, c, e, _⟩
  · exact ⟨a, c, e⟩
  · exact ⟨_, _, e⟩
theorem RC.nil (W : World) (a : Option Addr) (c : Nat) : RC W (.slice a 0 c) 0 [] := .inl ⟨rfl, _, _, rfl⟩
theorem RC.of_owns {W : World} {B E k n : Nat} {v : Value} {C : List Value} (h : W.ownsRow B E k v n C) : RC W v n C := by
  have h0 := h
  obtain ⟨hl, (⟨rfl, hn⟩ | ⟨g, cap, cur, rfl, hbg, hg, hc1, hc2, hc3, hc4⟩)⟩ := h
  · exact .inl ⟨hn, _, _, rfl⟩
  · refine .inr ⟨g, 0, cap, rfl, by omega, (Array.getElem?_eq_some_iff.1 hg).1, fun j x hx => ?_⟩
    have hj := (List.getElem?_eq_some_iff.1 hx).1
    rw [Nat.zero_add]
    exact (h0.cellAt j (by omega)).trans hx
theorem RC.len {W : World} {a : Option Addr} {n m cap : Nat} {C : List Value} (h : RC W (.slice a m cap) n C) : m = n := by
  obtain ⟨a', c', e⟩ := h.form
  simp at e
  exact e.2.1

end Go.Proofs.YtkkolefionbbcaaGreat

/-
  Writers: numbers and texts as bytes; what a call leaves as it was.
-/
set_option linter.unusedSimpArgs false
set_option linter.unusedVariables false
namespace Go.Proofs.YtkkolefionbbcaaGreat
open Go.RowKit Go.Lib

/-- all blocks stay but those of N, and new ones come -/
structure Kp (N : Nat → Prop) (W W' : World) : Prop where
  os : W'.os = W.os
  tape : W'.tape = W.tape
  output : W'.output = W.output
  size : W.heap.size ≤ W'.heap.size
  block : ∀ k, k < W.heap.size → ¬ N k → W'.heap[k]? = W.heap[k]?
theorem Kp.refl (N : Nat → Prop) (W : World) : Kp N W W := ⟨rfl, rfl, rfl, Nat.le_refl _, fun _ _ _ => rfl⟩
theorem Kp.trans {N M : Nat → Prop} {a b c : World} (h : Kp N a b) (k : Kp M b c) (hm : ∀ i, M i → N i ∨ a.heap.size ≤ i) : Kp N a c :=
  ⟨k.os.trans h.os, k.tape.trans h.tape, k.output.trans h.output, Nat.le_trans h.size k.size, fun i hi hn =>
    (k.block i (Nat.lt_of_lt_of_le hi h.size) (fun e => by rcases hm i e with h' | h'; exact hn h'; omega)).trans (h.block i hi hn)⟩
theorem Kp.of_below {N : Nat → Prop} {W W' : World} (h : Below W.heap.size W W') : Kp N W W' := ⟨h.os, h.tape, h.output, h.size, fun k hk _ => h.block k hk⟩
theorem Kp.of_grown {N : Nat → Prop} {W W' : World} {row : Option Nat} (h : W.grownBy W' row) (hr : ∀ k, row = some k → N k) : Kp N W W' :=
  ⟨h.os, h.tape, h.output, h.size, fun k hk hn => h.block k hk (fun e => hn (hr k e.symm))⟩
theorem Kp.set {N : Nat → Prop} (W : World) (a : Addr) (v : Value) (h : N a.block) : Kp N W (W.setCell a v) := by
  have b := Below.setCell (Below.refl 0 W) (Nat.zero_le a.block) v
  exact ⟨b.os, b.tape, b.output, b.size, fun k hk hn => Below.heap_setCell W a v k (fun e => hn (e ▸ h))⟩
theorem Kp.below {N : Nat → Prop} {w W W' : World} (k : Kp N W W') (h : Below w.heap.size w W) (hn : ∀ i, N i → w.heap.size ≤ i) : Below w.heap.size w W' :=
  ⟨k.os.trans h.os, k.tape.trans h.tape, k.output.trans h.output, Nat.le_trans h.size k.size, fun i hi => (k.block i (Nat.lt_of_lt_of_le hi h.size) (fun e => by have := hn i e; omega)).trans (h.block i hi)⟩
theorem Bx.kp {N : Nat → Prop} {W W' : World} {b : Nat} {t : TypeId} {vs : Array Value} (h : Bx W b t vs) (k : Kp N W W') (hn : ¬ N b) : Bx W' b t vs := (k.block b h.lt hn).trans h

/-- bytes as cells -/
def bC (L : List Nat) : List Value := L.map fun b => Value.int .u8 (b : Nat)
theorem bC_len (L : List Nat) : (bC L).length = L.length := by simp [bC]
theorem bC_app (L M : List Nat) : bC (L ++ M) = bC L ++ bC M := by simp [bC]
theorem bC_get (L : List Nat) (j b : Nat) (h : L[j]? = some b) : (bC L)[j]? = some (.int .u8 (b : Nat)) := by simp [bC, h]
/-- a text's bytes -/
def sB (s : ByteArray) : List Nat := s.data.toList.map (·.toNat)
theorem sB_len (s : ByteArray) : (sB s).length = s.size := by
  unfold sB
  rw [List.length_map]
  rfl
theorem sB_cells (s : ByteArray) : bC (sB s) = strCells s := by
  unfold bC sB strCells
  rw [List.map_map]
  rfl
theorem sB_lt (s : ByteArray) : ∀ b ∈ sB s, b < 256 := by
  intro b hb
  simp only [sB, List.mem_map] at hb
  obtain ⟨x, _, rfl⟩ := hb
  exact x.toNat_lt

/-- a number in groups of seven binary digits -/
def numF : Nat → Nat → List Nat
  | 0, n => [n]
  | f + 1, n => if n < 128 then [n] else (n % 128 + 128) :: numF f (n / 128)
def num (n : Nat) : List Nat := numF 10 n
theorem numF_more : ∀ (f g n : Nat), n < 128 ^ (f + 1) → f ≤ g → numF f n = numF g n
  | 0, 0, n, _, _ => rfl
  | 0, g + 1, n, h, _ => by rw [numF, numF, if_pos (by simpa using h)]
  | f + 1, 0, n, _, h => absurd h (by omega)
  | f + 1, g + 1, n, h, hg => by
    rw [numF, numF]
    by_cases h1 : n < 128
    · rw [if_pos h1, if_pos h1]
    · rw [if_neg h1, if_neg h1, numF_more f g (n / 128) (Nat.div_lt_of_lt_mul (by rw [Nat.mul_comm, ← Nat.pow_succ]; exact h)) (by omega)]
theorem num_step (n : Nat) (h : n < 9223372036854775808) (h1 : 128 ≤ n) : num n = (n % 128 + 128) :: num (n / 128) := by
  unfold num
  rw [numF, if_neg (by omega), numF_more 9 10 (n / 128) (by have : (128 : Nat) ^ 10 = 1180591620717411303424 := by decide
                                                            omega) (by omega)]
theorem num_last (n : Nat) (h1 : n < 128) : num n = [n] := by
  unfold num
  rw [numF, if_pos h1]
theorem numF_lt : ∀ (f n : Nat), n < 128 ^ (f + 1) → ∀ b ∈ numF f n, b < 256
  | 0, n, h => by simp [numF]; omega
  | f + 1, n, h => by
    rw [numF]
    split
    · simp; omega
    · intro b hb
      rcases List.mem_cons.1 hb with rfl | hb
      · omega
      · exact numF_lt f (n / 128) (Nat.div_lt_of_lt_mul (by rw [Nat.mul_comm, ← Nat.pow_succ]; exact h)) b hb
theorem num_lt (n : Nat) (h : n < 9223372036854775808) : ∀ b ∈ num n, b < 256 := numF_lt 10 n (by have : (128 : Nat) ^ 11 = 151115727451828646838272 := by decide
                                                                                                  omega)
theorem numF_len : ∀ (f n : Nat), (numF f n).length ≤ f + 1
  | 0, n => by simp [numF]
  | f + 1, n => by
    rw [numF]
    split
    · simp
    · simp; have := numF_len f (n / 128); omega
theorem num_len (n : Nat) : (num n).length ≤ 11 := numF_len 10 n

/-- what was laid, and the error, when a number is laid -/
def wNum (s : List Nat × Int) (v : Int) : List Nat × Int := if s.2 ≠ 0 then s else if v < 0 then (s.1, 1) else (s.1 ++ num v.toNat, 0)
def wTxt (s : List Nat × Int) (t : ByteArray) : List Nat × Int := if s.2 ≠ 0 then s else (s.1 ++ num t.size ++ sB t, 0)

/-- a Writer in memory -/
structure Wr (W : World) (p : Nat) (v : Value) (L : List Nat) (e : Int) : Prop where
  box : Bx W p 198 #[v, .int .i64 e]
  row : W.ownsRow (p + 1) 5 1 v L.length (bC L)
def wOwn (p : Nat) (v : Value) (k : Nat) : Prop := k = p ∨ v.ownBlock = some k
def OwnAt (w : World) (v v' : Value) : Prop := ∀ k, v'.ownBlock = some k → v.ownBlock = some k ∨ w.heap.size ≤ k
theorem OwnAt.refl (w : World) (v : Value) : OwnAt w v v := fun _ h => .inl h
theorem OwnAt.trans {w w' : World} {v v' v'' : Value} (h : OwnAt w v v') (k : OwnAt w' v' v'') (hs : w.heap.size ≤ w'.heap.size) : OwnAt w v v'' := fun i hi => by
  rcases k i hi with h' | h'
  · exact h i h'
  · exact .inr (by omega)
theorem wOwn_at {w : World} {p : Nat} {v v' : Value} (h : OwnAt w v v') : ∀ i, wOwn p v' i → wOwn p v i ∨ w.heap.size ≤ i := fun i hi => by
  rcases hi with rfl | hi
  · exact .inl (.inl rfl)
  · rcases h i hi with h' | h'
    · exact .inl (.inr h')
    · exact .inr h'

theorem owns_kp {N : Nat → Prop} {W W' : World} {B E k n : Nat} {v : Value} {C : List Value} (h : W.ownsRow B E k v n C) (kp : Kp N W W') (hn : ∀ i, v.ownBlock = some i → ¬ N i) : W'.ownsRow B E k v n C := by
  obtain ⟨hl, (h | ⟨g, cap, cur, rfl, hbg, hg, hr⟩)⟩ := h
  · exact ⟨hl, .inl h⟩
  · exact ⟨hl, .inr ⟨g, cap, cur, rfl, hbg, (kp.block g (Array.getElem?_eq_some_iff.1 hg).1 (hn g rfl)).trans hg, hr⟩⟩
theorem Wr.kp {N : Nat → Prop} {W W' : World} {p : Nat} {v : Value} {L : List Nat} {e : Int} (h : Wr W p v L e) (k : Kp N W W') (h1 : ¬ N p) (h2 : ∀ i, v.ownBlock = some i → ¬ N i) : Wr W' p v L e :=
  ⟨h.box.kp k h1, owns_kp h.row k h2⟩
theorem Wr.below {W W' : World} {p : Nat} {v : Value} {L : List Nat} {e : Int} (h : Wr W p v L e) (hb : Below W.heap.size W W') : Wr W' p v L e := h.kp (N := fun _ => False) (Kp.of_below hb) (fun h => h) (fun _ _ h => h)
theorem Wr.form {W : World} {p : Nat} {v : Value} {L : List Nat} {e : Int} (h : Wr W p v L e) : ∃ a c, v = .slice a L.length c := by
  obtain ⟨_, (⟨rfl, hn⟩ | ⟨g, cap, cur, rfl, _⟩)⟩ := h.row
  · exact ⟨none, 0, by rw [hn]⟩
  · exact ⟨_, _, rfl⟩
theorem Wr.ne {W : World} {p : Nat} {v : Value} {L : List Nat} {e : Int} (h : Wr W p v L e) : ∀ k, v.ownBlock = some k → k ≠ p := fun k hk e => by
  have := (h.row.lt k hk).1
  omega
/-- the row is put into the box -/
theorem Wr.put {W : World} {p : Nat} {v v' : Value} {L : List Nat} {e : Int} (hb : Bx W p 198 #[v, .int .i64 e]) (hr : W.ownsRow (p + 1) 5 1 v' L.length (bC L)) : Wr (W.setCell ⟨p, 0, none⟩ v') p v' L e :=
  ⟨by simpa using hb.set 0 v', owns_kp hr (Kp.set (N := fun k => k = p) W ⟨p, 0, none⟩ v' rfl) (fun i hi e => by have := (hr.lt i hi).1; omega)⟩

theorem owns_form {W : World} {B E k n : Nat} {v : Value} {C : List Value} (h : W.ownsRow B E k v n C) : ∃ a c, v = .slice a n c := by
  obtain ⟨_, (⟨rfl, hn⟩ | ⟨g, cap, cur, rfl, _⟩)⟩ := h
  · exact ⟨none, 0, by rw [hn]⟩
  · exact ⟨_, _, rfl⟩

theorem ownAt_of {w : World} {o : Obj} {v v' : Value} (h : v'.ownBlock = v.ownBlock ∨ v'.ownBlock = some (w.alloc o).heap.size) : OwnAt w v v' := fun k hk => by
  rcases h with h | h
  · exact .inl (by rw [← h]; exact hk)
  · rw [hk] at h
    simp at h
    exact .inr (by omega)

/-- the box behind an append -/
theorem Wr.grown {wr w1 : World} {p : Nat} {v1 : Value} {L : List Nat} {e : Int} {o : Obj} (h : Wr wr p v1 L e) (hg : (wr.alloc o).grownBy w1 v1.ownBlock) : Bx w1 p 198 #[v1, .int .i64 e] := by
  have h1 := h.box.below (ballc (Below.refl _ wr) o)
  refine (hg.block p h1.lt ?_).trans h1
  intro e'
  exact h.ne p e'.symm rfl

theorem wr_step {w wr w1 : World} {p : Nat} {v v1 v' : Value} {L M : List Nat} {e : Int} {o : Obj} {n : Nat} (HW : Wr wr p v1 L e) (HK : Kp (wOwn p v) w wr) (HO : OwnAt w v v1) (hown : w1.ownsRow (p + 1) 5 1 v' n (bC M)) (hn : n = M.length) (hg : (wr.alloc o).grownBy w1 v1.ownBlock) (hat : OwnAt wr v1 v') :
    Wr (w1.setCell ⟨p, 0, none⟩ v') p v' M e ∧ Kp (wOwn p v) w (w1.setCell ⟨p, 0, none⟩ v') ∧ OwnAt w v v' := by
  subst hn
  refine ⟨Wr.put (HW.grown hg) hown, ?_, HO.trans hat HK.size⟩
  refine HK.trans (M := wOwn p v1) ?_ (wOwn_at HO)
  refine Kp.trans (N := wOwn p v1) (M := wOwn p v1) (Kp.of_below (ballc (Below.refl _ wr) o)) ?_ (fun i h => .inl h)
  refine Kp.trans (N := wOwn p v1) (M := wOwn p v1) (Kp.of_grown hg (fun k hk => .inr hk)) ?_ (fun i h => .inl h)
  exact Kp.set _ _ _ (.inl rfl)

theorem Wr.grown0 {wr w1 : World} {p : Nat} {v1 : Value} {L : List Nat} {e : Int} (h : Wr wr p v1 L e) (hg : wr.grownBy w1 v1.ownBlock) : Bx w1 p 198 #[v1, .int .i64 e] := by
  refine (hg.block p h.box.lt ?_).trans h.box
  intro e'
  exact h.ne p e'.symm rfl

theorem wr_step0 {w wr w1 : World} {p : Nat} {v v1 v' : Value} {L M : List Nat} {e : Int} {n : Nat} (HW : Wr wr p v1 L e) (HK : Kp (wOwn p v) w wr) (HO : OwnAt w v v1) (hown : w1.ownsRow (p + 1) 5 1 v' n (bC M)) (hn : n = M.length) (hg : wr.grownBy w1 v1.ownBlock) (hat : OwnAt wr v1 v') :
    Wr (w1.setCell ⟨p, 0, none⟩ v') p v' M e ∧ Kp (wOwn p v) w (w1.setCell ⟨p, 0, none⟩ v') ∧ OwnAt w v v' := by
  subst hn
  refine ⟨Wr.put (HW.grown0 hg) hown, ?_, HO.trans hat HK.size⟩
  refine HK.trans (M := wOwn p v1) ?_ (wOwn_at HO)
  refine Kp.trans (N := wOwn p v1) (M := wOwn p v1) (Kp.of_grown hg (fun k hk => .inr hk)) ?_ (fun i h => .inl h)
  exact Kp.set _ _ _ (.inl rfl)

theorem infoB : (Tryz.prog.info? 5).map (fun i => (i.zero, i.size, i.bytes)) = some (some (.int .u8 0), 1, 1) := by kernel_rfl

/-- append of a text's bytes: where it lies -/
theorem append_text_at (w : World) (ty : TypeId) (base : Nat) (v : Value) (n : Nat) (xs : List Value) (hown : w.ownsRow base 5 1 v n xs) (s : ByteArray) (hbytes : n + s.size ≤ 140737488355328) (hbase : base ≤ w.heap.size) :
    ∃ v' w', (Builtin.append_ #[148, 9] ty #[v, .string s]).run Tryz.prog w = .ok v' w' ∧ w'.ownsRow base 5 1 v' (n + s.size) (xs ++ strCells s) ∧ w.grownBy w' v.ownBlock ∧ OwnAt w v v' := by
  obtain ⟨i0, hi, hz0, hz1, hz2⟩ := info_parts infoB
  obtain ⟨v', w', h1, h2, h3, h4⟩ := run_append_own_string (P := Tryz.prog) w base 148 9 ty 5 i0 Tryz.underlying148 Tryz.underlying9 hi hz0 hz1 hz2 v n xs hown s (by unfold maxLen; omega) hbytes hbase
  refine ⟨v', w', h1, h2, h3, ?_⟩
  rcases hown.2 with ⟨rfl, rfl⟩ | ⟨g, cap, cur, rfl, hbg, hg, hnc, hcm, hcs, htake⟩
  · have hx : xs = [] := List.eq_nil_of_length_eq_zero (by simpa using hown.1)
    subst hx
    obtain ⟨v2, w2, k1, k2, k3, k4⟩ := run_append_own_string (P := Tryz.prog) w w.heap.size 148 9 ty 5 i0 Tryz.underlying148 Tryz.underlying9 hi hz0 hz1 hz2 (.slice none 0 0) 0 [] (World.ownsRow_nil _ _ _ _) s (by unfold maxLen; omega) hbytes (Nat.le_refl _)
    rw [h1] at k1
    simp only [Result.ok.injEq] at k1
    obtain ⟨rfl, rfl⟩ := k1
    exact fun k hk => .inr (k2.lt k hk).1
  · by_cases hroom : n + s.size ≤ cap
    · have hr := run_append_room_string (P := Tryz.prog) w 148 9 ty 5 i0 Tryz.underlying148 Tryz.underlying9 hi hz1 g n cap cur hg s hroom (by simp at hcs; omega)
      rw [h1] at hr
      simp only [Result.ok.injEq] at hr
      obtain ⟨rfl, rfl⟩ := hr
      exact fun k hk => .inl hk
    · have holds : ∀ j u, xs[j]? = some u → w.cell? ((⟨g, 0, none⟩ : Addr).add j) = some u := hown.cells (g := g) rfl
      have hr := run_append_grow_string (P := Tryz.prog) w 148 9 ty 5 i0 (.int .u8 0) Tryz.underlying148 Tryz.underlying9 hi hz0 ⟨g, 0, none⟩ n cap xs (by rw [hz1]; exact hown.1) holds s (by omega) (by omega) (by rw [hz2]; exact growslice_fits (by omega) (by omega))
      rw [h1] at hr
      simp only [Result.ok.injEq] at hr
      obtain ⟨rfl, rfl⟩ := hr
      intro k hk
      simp [Value.ownBlock] at hk
      exact .inr (by omega)

theorem wpList_append_text_at {w : World} {ops : Array Oper} {rest : List Oper} {o : Oper} {a : Act} {Q : Exit → Act → World → Prop} (hgd : o.guard = none) (sl x : Operand)
    (ho : o.op = .call { callee := .builtin .append, args := #[sl, x], argTypes := #[148, 9] })
    (base : Nat) (v : Value) (n : Nat) (xs : List Value) (hs : a.eval sl = v) (hown : w.ownsRow base 5 1 v n xs) (s : ByteArray) (hx : a.eval x = .string s) (hbytes : n + s.size ≤ 140737488355328) (hbase : base ≤ w.heap.size)
    (h : ∀ v' w', w'.ownsRow base 5 1 v' (n + s.size) (xs ++ strCells s) → w.grownBy w' v.ownBlock → OwnAt w v v' → wpList Tryz.prog ops Q rest (a.put o.dst v') w') : wpList Tryz.prog ops Q (o :: rest) a w := by
  refine wpList_plain hgd fun K hK => ?_
  obtain ⟨v', w', hr, h2, h3, h4⟩ := append_text_at w o.type base v n xs hown s hbytes hbase
  unfold Oper.wp execOp
  simp only [ho, resolve, invoke, builtin, Sem.run_bind, Sem.run_pure, Result.andThen_ok, List.map_toArray, List.map_cons, List.map_nil, hs, hx, hr]
  exact hK _ _ (h v' w' h2 h3 h4)

end Go.Proofs.YtkkolefionbbcaaGreat

/-
  Lists of Dots: what they say of each site, the vector of that; there and back. Pure.
-/
set_option linter.unusedSimpArgs false
set_option linter.unusedVariables false
namespace Go.Proofs.YtkkolefionbbcaaGreat
open Go.RowKit Go.Lib

/-- does a Dot say something? -/
def okD (d : Int × Int) : Bool := decide (1 ≤ d.1) && decide (d.1 ≤ 16) && decide (1 ≤ d.2) && decide (d.2 ≤ 2147483647)
theorem okD_iff (d : Int × Int) : okD d = true ↔ (1 ≤ d.1 ∧ d.1 ≤ 16) ∧ 1 ≤ d.2 ∧ d.2 ≤ 2147483647 := by
  unfold okD; simp [and_assoc]

/-- one place is set -/
def put1 (s : Nat → Int) (i : Nat) (x : Int) : Nat → Int := fun j => if j = i then x else s j
theorem put1_self (s : Nat → Int) (i : Nat) (x : Int) : put1 s i x i = x := by simp [put1]
theorem put1_other (s : Nat → Int) (i j : Nat) (x : Int) (h : j ≠ i) : put1 s i x j = s j := by simp [put1, h]

/-- what a Dot more says -/
def syF (s : Nat → Int) (d : Int × Int) : Nat → Int := if okD d = true then put1 s d.1.toNat (max (s d.1.toNat) d.2) else s
/-- what a list says -/
def sy (l : List (Int × Int)) : Nat → Int := l.foldl syF (fun _ => 0)
theorem sy_nil : sy [] = fun _ => 0 := rfl
theorem sy_snoc (l : List (Int × Int)) (d : Int × Int) : sy (l ++ [d]) = syF (sy l) d := by simp [sy]
theorem sy_append (l m : List (Int × Int)) : sy (l ++ m) = m.foldl syF (sy l) := by simp [sy]

/-- a row of sites: from 0 on, none for what is no site -/
structure Good (s : Nat → Int) : Prop where
  lo : ∀ i, 0 ≤ s i
  hi : ∀ i, s i ≤ 2147483647
  zero : s 0 = 0
  over : ∀ i, 17 ≤ i → s i = 0
theorem Good.none : Good (fun _ => 0) := ⟨fun _ => by omega, fun _ => by omega, rfl, fun _ _ => rfl⟩
theorem Good.put {s : Nat → Int} (h : Good s) {i : Nat} {x : Int} (h1 : 1 ≤ i) (h2 : i ≤ 16) (h3 : 0 ≤ x) (h4 : x ≤ 2147483647) : Good (put1 s i x) := by
  refine ⟨fun j => ?_, fun j => ?_, ?_, fun j hj => ?_⟩
  · unfold put1; have := h.lo j; split <;> omega
  · unfold put1; have := h.hi j; split <;> omega
  · rw [put1_other _ _ _ _ (by omega)]; exact h.zero
  · rw [put1_other _ _ _ _ (by omega)]; exact h.over j hj
theorem Good.step {s : Nat → Int} (h : Good s) (d : Int × Int) : Good (syF s d) := by
  unfold syF
  split
  · rename_i hd
    obtain ⟨⟨h1, h2⟩, h3, h4⟩ := (okD_iff d).1 hd
    have := h.hi d.1.toNat
    exact h.put (by omega) (by omega) (by omega) (by omega)
  · exact h
theorem Good.fold (m : List (Int × Int)) : ∀ {s : Nat → Int}, Good s → Good (m.foldl syF s) := by
  induction m with
  | nil => intro s h; exact h
  | cons d m ih => intro s h; exact ih (h.step d)
theorem sy_good (l : List (Int × Int)) : Good (sy l) := Good.fold l Good.none

/-- the vector of a row -/
def vecN (s : Nat → Int) (k : Nat) : List (Int × Int) := (List.range k).filterMap fun i => if 0 < s i then some ((i : Int), s i) else none
def vec (s : Nat → Int) : List (Int × Int) := vecN s 17
theorem vecN_zero (s : Nat → Int) : vecN s 0 = [] := rfl
theorem vecN_step (s : Nat → Int) (k : Nat) : vecN s (k + 1) = vecN s k ++ (if 0 < s k then [((k : Int), s k)] else []) := by
  unfold vecN
  rw [List.range_succ, List.filterMap_append]
  congr 1
  by_cases h : 0 < s k <;> simp [h]
theorem vecN_pos {s : Nat → Int} {k : Nat} (h : 0 < s k) : vecN s (k + 1) = vecN s k ++ [((k : Int), s k)] := by rw [vecN_step, if_pos h]
theorem vecN_neg {s : Nat → Int} {k : Nat} (h : ¬ 0 < s k) : vecN s (k + 1) = vecN s k := by rw [vecN_step, if_neg h, List.append_nil]
theorem vecN_len (s : Nat → Int) : ∀ k, (vecN s k).length ≤ k
  | 0 => by simp [vecN]
  | k + 1 => by
    have := vecN_len s k
    rw [vecN_step]
    split <;> simp <;> omega
theorem vec_len (s : Nat → Int) : (vec s).length ≤ 17 := vecN_len s 17
theorem vecN_mem {s : Nat → Int} {k : Nat} {d : Int × Int} (h : d ∈ vecN s k) : ∃ i, i < k ∧ 0 < s i ∧ d = ((i : Int), s i) := by
  unfold vecN at h
  obtain ⟨i, hi, e⟩ := List.mem_filterMap.1 h
  by_cases hs : 0 < s i
  · rw [if_pos hs] at e
    exact ⟨i, List.mem_range.1 hi, hs, (Option.some.inj e).symm⟩
  · rw [if_neg hs] at e; cases e

/-- what the vector of a row says is the row -/
theorem sy_vecN {s : Nat → Int} (h : Good s) : ∀ k, k ≤ 17 → ∀ j, sy (vecN s k) j = if j < k then s j else 0
  | 0, _, j => by simp [vecN, sy]
  | k + 1, hk, j => by
    have ih := sy_vecN h k (by omega)
    by_cases hs : 0 < s k
    · have h0 : k ≠ 0 := fun e => by rw [e, h.zero] at hs; omega
      rw [vecN_pos hs, sy_snoc]
      have hok : okD ((k : Int), s k) = true := (okD_iff _).2 ⟨⟨by show (1 : Int) ≤ (k : Int); omega, by show (k : Int) ≤ 16; omega⟩, by show 1 ≤ s k; omega, h.hi k⟩
      unfold syF
      rw [if_pos hok]
      show put1 _ (k : Int).toNat (max (sy (vecN s k) (k : Int).toNat) (s k)) j = _
      rw [Int.toNat_natCast, ih k, if_neg (by omega)]
      unfold put1
      by_cases hj : j = k
      · subst hj; simp; omega
      · rw [if_neg hj, ih j]
        by_cases h1 : j < k
        · rw [if_pos h1, if_pos (by omega)]
        · rw [if_neg h1, if_neg (by omega)]
    · rw [vecN_neg hs, ih j]
      by_cases h1 : j < k
      · rw [if_pos h1, if_pos (by omega)]
      · rw [if_neg h1]
        by_cases h2 : j = k
        · subst h2; rw [if_pos (by omega)]; have := h.lo j; omega
        · rw [if_neg (by omega)]
theorem sy_vec {s : Nat → Int} (h : Good s) : sy (vec s) = s := by
  funext j
  unfold vec
  rw [sy_vecN h 17 (by omega) j]
  split
  · rfl
  · rw [h.over j (by omega)]

/-- the greater, the lesser of two rows -/
def mrg (s t : Nat → Int) : Nat → Int := fun i => max (s i) (t i)
def lst (s t : Nat → Int) : Nat → Int := fun i => min (s i) (t i)
theorem Good.mrg {s t : Nat → Int} (h : Good s) (k : Good t) : Good (mrg s t) := by
  unfold Go.Proofs.YtkkolefionbbcaaGreat.mrg
  exact ⟨fun i => by have := h.lo i; have := k.lo i; show 0 ≤ max (s i) (t i); omega, fun i => by have := h.hi i; have := k.hi i; show max (s i) (t i) ≤ _; omega, by show max (s 0) (t 0) = 0; rw [h.zero, k.zero]; rfl, fun i hi => by show max (s i) (t i) = 0; rw [h.over i hi, k.over i hi]; rfl⟩
theorem Good.lst {s t : Nat → Int} (h : Good s) (k : Good t) : Good (lst s t) := by
  unfold Go.Proofs.YtkkolefionbbcaaGreat.lst
  exact ⟨fun i => by have := h.lo i; have := k.lo i; show 0 ≤ min (s i) (t i); omega, fun i => by have := h.hi i; have := k.hi i; show min (s i) (t i) ≤ _; omega, by show min (s 0) (t 0) = 0; rw [h.zero, k.zero]; rfl, fun i hi => by show min (s i) (t i) = 0; rw [h.over i hi, k.over i hi]; rfl⟩

/-- why a vector is none: 0 if it is one -/
def chkF (ahead : Int) : List (Int × Int) → Int
  | [] => 0
  | d :: l => if ¬ (1 ≤ d.1 ∧ d.1 ≤ 16) then 1 else if ¬ (1 ≤ d.2 ∧ d.2 ≤ 2147483647) then 6 else if d.1 ≤ ahead then 9 else chkF d.1 l
def chk (l : List (Int × Int)) : Int := chkF 0 l
theorem chkF_vecN (s : Nat → Int) (hg : Good s) : ∀ (m k : Nat) (ahead : Int), k + m = 17 → (0 < k → ahead < k) → ahead ≤ 0 ∨ ahead < k → chkF ahead (((List.range' k m).filterMap fun i => if 0 < s i then some ((i : Int), s i) else none)) = 0
  | 0, k, a, _, _, _ => by simp [chkF]
  | m + 1, k, a, h, h1, h2 => by
    rw [List.range'_succ, List.filterMap_cons]
    by_cases hs : 0 < s k
    · have h0 : k ≠ 0 := fun e => by rw [e, hg.zero] at hs; omega
      simp only [hs, if_true]
      rw [chkF, if_neg (by show ¬ ¬ ((1 : Int) ≤ (k : Int) ∧ (k : Int) ≤ 16); omega), if_neg (by show ¬ ¬ ((1 : Int) ≤ s k ∧ s k ≤ 2147483647); have := hg.hi k; omega), if_neg (by show ¬ (k : Int) ≤ a; have := h1 (by omega); omega)]
      exact chkF_vecN s hg m (k + 1) k (by omega) (fun _ => by omega) (.inr (by omega))
    · simp only [hs, if_false]
      exact chkF_vecN s hg m (k + 1) a (by omega) (fun _ => by rcases h2 with h2 | h2 <;> omega) (by omega)
theorem chk_vec {s : Nat → Int} (h : Good s) : chk (vec s) = 0 := by
  unfold chk vec vecN
  rw [List.range_eq_range']
  exact chkF_vecN s h 17 0 0 (by omega) (fun h => by omega) (.inl (by omega))

/-- how many there are -/
def sumN (s : Nat → Int) : Nat → Int
  | 0 => 0
  | k + 1 => sumN s k + s k
def sum (s : Nat → Int) : Int := sumN s 17
theorem sumN_in {s : Nat → Int} (h : Good s) : ∀ k : Nat, 0 ≤ sumN s k ∧ sumN s k ≤ (k : Int) * 2147483647
  | 0 => by simp [sumN]
  | k + 1 => by
    have ih := sumN_in h k
    have h1 := h.lo k
    have h2 := h.hi k
    rw [sumN]
    push_cast
    omega
theorem sumN_add (s t : Nat → Int) : ∀ k, sumN (mrg s t) k + sumN (lst s t) k = sumN s k + sumN t k
  | 0 => rfl
  | k + 1 => by
    have ih := sumN_add s t k
    simp only [sumN]
    have : mrg s t k + lst s t k = s k + t k := by unfold mrg lst; omega
    omega
theorem sumN_put {s : Nat → Int} (i : Nat) (x : Int) : ∀ k, sumN (put1 s i x) k = sumN s k + if i < k then x - s i else 0
  | 0 => by simp [sumN]
  | k + 1 => by
    have ih := sumN_put (s := s) i x k
    simp only [sumN]
    rw [ih]
    by_cases h : k = i
    · subst h; rw [put1_self, if_neg (by omega), if_pos (by omega)]; omega
    · rw [put1_other _ _ _ _ h]
      by_cases h2 : i < k
      · rw [if_pos h2, if_pos (by omega)]; omega
      · rw [if_neg h2, if_neg (by omega)]; omega

/-- has all that another has -/
def cov (s t : Nat → Int) : Bool := (List.range 17).all fun i => decide (t i ≤ s i)
theorem cov_iff {s t : Nat → Int} (h : Good s) (k : Good t) : cov s t = true ↔ ∀ i, t i ≤ s i := by
  unfold cov
  rw [List.all_eq_true]
  simp only [List.mem_range, decide_eq_true_eq]
  refine ⟨fun h' i => ?_, fun h' i _ => h' i⟩
  by_cases hi : i < 17
  · exact h' i hi
  · rw [k.over i (by omega)]; exact h.lo i

theorem vec_inj {s t : Nat → Int} (h : Good s) (k : Good t) (e : vec s = vec t) : s = t := by rw [← sy_vec h, ← sy_vec k, e]

/-- the next of a site -/
def addV (l : List (Int × Int)) (d : Int × Int) : List (Int × Int) × Int :=
  if ¬ (1 ≤ d.1 ∧ d.1 ≤ 16) ∨ d.2 < 1 then ([], 1) else if 2147483647 < d.2 then ([], 17) else if d.2 - 1 ≠ sy l d.1.toNat then ([], 9) else (vec (put1 (sy l) d.1.toNat d.2), 0)
def getV (l : List (Int × Int)) (site : Int) : Int := if 1 ≤ site ∧ site ≤ 16 then sy l site.toNat else 0
def hasV (l : List (Int × Int)) (d : Int × Int) : Bool := decide (1 ≤ d.2 ∧ d.2 ≤ getV l d.1)

end Go.Proofs.YtkkolefionbbcaaGreat

/-
  Rows of Dots, and rows of seventeen numbers, in memory.
-/
set_option linter.unusedSimpArgs false
set_option linter.unusedVariables false
namespace Go.Proofs.YtkkolefionbbcaaGreat
open Go.RowKit Go.Lib

def encI (x : Int × Int) : List Value := [.int .i64 x.1, .int .i64 x.2]
theorem encI_len (x : Int × Int) : (encI x).length = 2 := rfl
def in64 (n : Int) : Prop := -9223372036854775808 ≤ n ∧ n ≤ 9223372036854775807
def idIn (x : Int × Int) : Prop := in64 x.1 ∧ in64 x.2

/-- a row of Dots -/
def RI (W : World) (v : Value) (l : List (Int × Int)) : Prop := RC W v l.length (flat encI l)
theorem RI.below {W W' : World} {v : Value} {l : List (Int × Int)} (h : RI W v l) (hb : Below W.heap.size W W') : RI W' v l := RC.below h hb
theorem RI.at {W : World} {a : Option Addr} {n c : Nat} {l : List (Int × Int)} (h : RI W (.slice a n c) l) {i : Nat} {x : Int × Int} (hi : l[i]? = some x) : ∃ b off, a = some ⟨b, off, none⟩ ∧ b < W.heap.size ∧ W.cell? ⟨b, off + i * 2, none⟩ = some (.int .i64 x.1) ∧ W.cell? ⟨b, off + i * 2 + 1, none⟩ = some (.int .i64 x.2) := by
  have hl := (List.getElem?_eq_some_iff.1 hi).1
  rcases h with ⟨h0, _⟩ | ⟨b, off, cap, e, h1, h2, hc⟩
  · omega
  · simp at e
    obtain ⟨rfl, _⟩ := e
    have f := fun q (hq : q < 2) v (hv : (encI x)[q]? = some v) => hc (i * 2 + q) v ((flat_get encI_len l i q x hi hq).trans hv)
    exact ⟨b, off, rfl, h2, f 0 (by omega) _ rfl, f 1 (by omega) _ rfl⟩
theorem RI.form {W : World} {v : Value} {l : List (Int × Int)} (h : RI W v l) : ∃ a c, v = .slice a l.length c := RC.form h
theorem RI.take {W : World} {a : Option Addr} {c : Nat} {l m : List (Int × Int)} (h : RI W (.slice a (l ++ m).length c) (l ++ m)) : RI W (.slice a l.length c) l := by
  rcases h with ⟨h0, _⟩ | ⟨b, off, cap, e, h1, h2, hc⟩
  · exact .inl ⟨by simp at h0; simp [h0.1], _, _, by simp at h0; simp [h0.1]; exact ⟨rfl, rfl⟩⟩
  · simp only [Value.slice.injEq] at e
    obtain ⟨rfl, _, rfl⟩ := e
    refine .inr ⟨b, off, c, rfl, by simp at h1; omega, h2, fun j x hx => hc j x ?_⟩
    rw [flat_append, List.getElem?_append_left (List.getElem?_eq_some_iff.1 hx).1]
    exact hx

theorem wpList_append_eq {w : World} {ops : Array Oper} {rest : List Oper} {o : Oper} {a : Act} {Q : Exit → Act → World → Prop} (hgd : o.guard = none) (s x : Operand) (t : TypeId)
    (ho : o.op = .call { callee := .builtin .append, args := #[s, x], argTypes := #[t, t] }) (v u v' : Value) (w' : World) (hs : a.eval s = v) (hx : a.eval x = u) (hr : (Builtin.append_ #[t, t] o.type #[v, u]).run Tryz.prog w = .ok v' w')
    (h : wpList Tryz.prog ops Q rest (a.put o.dst v') w') : wpList Tryz.prog ops Q (o :: rest) a w := by
  refine wpList_plain hgd fun K hK => ?_
  unfold Oper.wp execOp
  simp only [ho, resolve, invoke, builtin, Sem.run_bind, Sem.run_pure, Result.andThen_ok, List.map_toArray, List.map_cons, List.map_nil, hs, hx, hr]
  exact hK _ _ h

theorem infoD : (Tryz.prog.info? 28).map (fun i => (i.zero, i.size, i.bytes)) = some (some (.agg #[.int .i64 0, .int .i64 0]), 2, 16) := by kernel_rfl
theorem undV : Tryz.prog.underlying 23 = some (.slice 28) := Tryz.underlying23

/-- append(v, d) of a Dot -/
theorem append_dot (w : World) (ty : TypeId) (N : Nat) (v : Value) (l : List (Int × Int)) (x y : Int) (h : w.ownsRow N 28 2 v l.length (flat encI l)) (hN : N ≤ w.heap.size) (hl : l.length ≤ 1000000) :
    ∃ v' w', (Builtin.append_ #[23, 23] ty #[v, .slice (some ⟨w.heap.size, 0, none⟩) 1 1]).run Tryz.prog (w.alloc (.cells #[.int .i64 x, .int .i64 y] 28)) = .ok v' w' ∧ w'.ownsRow N 28 2 v' (l ++ [(x, y)]).length (flat encI (l ++ [(x, y)])) ∧ (w.alloc (.cells #[.int .i64 x, .int .i64 y] 28)).grownBy w' v.ownBlock ∧ (v'.ownBlock = v.ownBlock ∨ v'.ownBlock = some (w.heap.size + 1)) := by
  obtain ⟨i0, hi, hz0, hz1, hz2⟩ := info_parts infoD
  have hbx := Bx.new w 28 #[.int .i64 x, .int .i64 y]
  obtain ⟨v', w', h1, h2, h3, h4, h5⟩ := run_append_own_at (P := Tryz.prog) (w.alloc (.cells #[.int .i64 x, .int .i64 y] 28)) N 23 ty 28 i0 _ 2 16 undV hi hz0 hz1 hz2 rfl (by decide) v l.length _ (h.alloc _) ⟨w.heap.size, 0, none⟩ 1 1 [.int .i64 x, .int .i64 y] rfl (fun j u hu => by
    rw [Addr.add_lit, Nat.zero_add]
    exact hbx.cell j u (by rw [← hu]; simp)) (fun u hu => by simp at hu; rcases hu with rfl | rfl <;> rfl) (by unfold maxLen; omega) (by omega) (by simp; omega)
  refine ⟨v', w', h1, by rw [flat_append]; simpa [show flat encI [(x, y)] = [.int .i64 x, .int .i64 y] from rfl] using h2, h3, ?_⟩
  simpa using h5

/-- seventeen numbers -/
def arr (s : Nat → Int) : Array Value := ((List.range 17).map fun i => Value.int .i64 (s i)).toArray
theorem arr_size (s : Nat → Int) : (arr s).size = 17 := by simp [arr]
theorem arr_get (s : Nat → Int) (i : Nat) (h : i < 17) : (arr s)[i]? = some (.int .i64 (s i)) := by simp [arr, h]
theorem arr_set (s : Nat → Int) (i : Nat) (x : Int) (h : i < 17) : (arr s).setIfInBounds i (.int .i64 x) = arr (put1 s i x) := by
  apply Array.ext
  · simp [arr]
  · intro j h1 h2
    simp [arr] at h2
    simp only [Array.getElem_setIfInBounds, arr, put1]
    by_cases hj : j = i
    · subst hj; simp
    · simp [hj, Ne.symm hj]
theorem arr_zero : arr (fun _ => 0) = #[.int .i64 0, .int .i64 0, .int .i64 0, .int .i64 0, .int .i64 0, .int .i64 0, .int .i64 0, .int .i64 0, .int .i64 0, .int .i64 0, .int .i64 0, .int .i64 0, .int .i64 0, .int .i64 0, .int .i64 0, .int .i64 0, .int .i64 0] := rfl

theorem eqA (s t : Nat → Int) (w : World) : (binOp .eql 128 (.agg (arr s)) (.agg (arr t))).run Tryz.prog w = .ok (.bool ((List.range 17).all fun i => s i == t i)) w := by
  have hsz : ∀ w, (sizeOf 3).run Tryz.prog w = .ok 1 w := fun w => Tryz.sizeOf3 w
  have main : (Op.equalIn 10000 128 (.agg (arr s)) (.agg (arr t))).run Tryz.prog w = .ok ((List.range 17).all fun i => s i == t i) w := by
    rw [show (10000 : Nat) = 9998 + 2 from rfl, Op.equalIn, List.range_eq_range']
    simp only [Sem.run_bind, run_underlying Tryz.underlying128, Result.andThen_ok, hsz, Std.Legacy.Range.forIn_eq_forIn_range', Std.Legacy.Range.size, Nat.sub_zero, Nat.add_sub_cancel, Nat.div_one]
    have hl : ∀ i ∈ List.range' 0 17 1, i < 17 := fun i hi => by simpa using (List.mem_range'_1.1 hi).2
    generalize List.range' 0 17 1 = l at hl ⊢
    induction l with
    | nil => simp
    | cons i l ih =>
      have hi : i < 17 := hl i (by simp)
      have px : ∀ u : Nat → Int, (part 3 (arr u) (i * 1)).run Tryz.prog w = .ok (.int .i64 (u i)) w := fun u => by
        have e := arr_get u i hi
        simp [part, isAgg, run_underlying Tryz.underlying3, e]
      have pe : (Op.equalIn (9998 + 1) 3 (.int .i64 (s i)) (.int .i64 (t i))).run Tryz.prog w = .ok (s i == t i) w := run_equalIn_int w 9998 3 .i64 .i64 _ _ Tryz.underlying3
      simp only [List.forIn_cons, Sem.run_bind, px, pe, Result.andThen_ok, List.all_cons]
      cases hb : (s i == t i)
      · simp
      · simp only [Bool.not_true, Bool.false_eq_true, if_false, Sem.run_pure, Result.andThen_ok, Bool.true_and]
        exact ih fun j hj => hl j (by simp [hj])
  rw [run_eql_struct, main]
  rfl

theorem eqD (t s t' s' : Int) (w : World) : (binOp .eql 28 (.agg #[.int .i64 t, .int .i64 s]) (.agg #[.int .i64 t', .int .i64 s'])).run Tryz.prog w = .ok (.bool (decide ((t, s) = (t', s')))) w := by
  by_cases h1 : t = t'
  · subst h1
    by_cases h2 : s = s'
    · subst h2
      simp [go_sem]
    · have hd : decide ((t, s) = (t, s')) = false := by rw [decide_eq_false_iff_not]; intro e; exact h2 (by simpa using e)
      rw [hd]
      simp [go_sem, h2]
  · have hd : decide ((t, s) = (t', s')) = false := by rw [decide_eq_false_iff_not]; intro e; exact h1 (by simp at e; exact e.1)
    rw [hd]
    simp [go_sem, h1]
theorem neqD (t s t' s' : Int) (w : World) : (binOp .neq 28 (.agg #[.int .i64 t, .int .i64 s]) (.agg #[.int .i64 t', .int .i64 s'])).run Tryz.prog w = .ok (.bool (!decide ((t, s) = (t', s')))) w := by
  by_cases h1 : t = t'
  · subst h1
    by_cases h2 : s = s'
    · subst h2
      simp [go_sem]
    · have hd : decide ((t, s) = (t, s')) = false := by rw [decide_eq_false_iff_not]; intro e; exact h2 (by simpa using e)
      rw [hd]
      simp [go_sem, h2]
  · have hd : decide ((t, s) = (t', s')) = false := by rw [decide_eq_false_iff_not]; intro e; exact h1 (by simp at e; exact e.1)
    rw [hd]
    simp [go_sem, h1]

end Go.Proofs.YtkkolefionbbcaaGreat

/-
  isSite, isSeq, greater, lesser, read.
-/
set_option linter.unusedSimpArgs false
set_option linter.unusedVariables false
namespace Go.Proofs.YtkkolefionbbcaaGreat
open Go.RowKit Go.Lib

def isT (n : Int) : Bool := decide (1 ≤ n ∧ n ≤ 16)
def isQ (n : Int) : Bool := decide (1 ≤ n ∧ n ≤ 2147483647)
theorem okD_parts (d : Int × Int) : okD d = (isT d.1 && isQ d.2) := by
  rw [Bool.eq_iff_iff, okD_iff]
  unfold isT isQ
  simp

set_option maxRecDepth 100000 in
theorem isSite_in (n : Int) (w : World) : Calls Tryz.prog 52 #[.int .i64 n] w fun e W => e = .returned (.bool (isT n)) ∧ w = W := by
  obtain ⟨R, hR⟩ : ∃ R, isT n = R := ⟨_, rfl⟩
  rw [hR]
  unfold isT at hR
  by_cases h1 : 1 ≤ n
  · by_cases h2 : n ≤ 16
    · obtain rfl : true = R := by rw [← hR]; simp [h1, h2]
      clear hR
      go_enter Tryz.func52, Tryz.ntmps52
      go_wp2
      go_ret
      exact ⟨rfl, rfl⟩
    · obtain rfl : false = R := by rw [← hR]; simp [h1, h2]
      clear hR
      go_enter Tryz.func52, Tryz.ntmps52
      go_wp2
      go_ret
      exact ⟨rfl, rfl⟩
  · obtain rfl : false = R := by rw [← hR]; simp [h1]
    clear hR
    go_enter Tryz.func52, Tryz.ntmps52
    go_wp2
    go_ret
    exact ⟨rfl, rfl⟩
set_option maxRecDepth 100000 in
theorem isSeq_in (n : Int) (w : World) : Calls Tryz.prog 53 #[.int .i64 n] w fun e W => e = .returned (.bool (isQ n)) ∧ w = W := by
  obtain ⟨R, hR⟩ : ∃ R, isQ n = R := ⟨_, rfl⟩
  rw [hR]
  unfold isQ at hR
  by_cases h1 : 1 ≤ n
  · by_cases h2 : n ≤ 2147483647
    · obtain rfl : true = R := by rw [← hR]; simp [h1, h2]
      clear hR
      go_enter Tryz.func53, Tryz.ntmps53
      go_wp2
      go_ret
      exact ⟨rfl, rfl⟩
    · obtain rfl : false = R := by rw [← hR]; simp [h1, h2]
      clear hR
      go_enter Tryz.func53, Tryz.ntmps53
      go_wp2
      go_ret
      exact ⟨rfl, rfl⟩
  · obtain rfl : false = R := by rw [← hR]; simp [h1]
    clear hR
    go_enter Tryz.func53, Tryz.ntmps53
    go_wp2
    go_ret
    exact ⟨rfl, rfl⟩

set_option maxRecDepth 100000 in
theorem greater_in (x y : Int) (w : World) : Calls Tryz.prog 89 #[.int .i64 x, .int .i64 y] w fun e W => e = .returned (.int .i64 (max x y)) ∧ w = W := by
  go_enter Tryz.func89, Tryz.ntmps89
  go_wp2
  · go_ret
    exact ⟨by rw [show max x y = y by omega]; rfl, rfl⟩
  · go_ret
    exact ⟨by rw [show max x y = x by omega]; rfl, rfl⟩
theorem und17 : Tryz.prog.underlying 128 = some (.array 17 3) := Tryz.underlying128
theorem info17 : (Tryz.prog.info? 128).map (·.size) = some 17 := by kernel_rfl
theorem arr_one (s : Nat → Int) : (arr s).all (·.oneCell') = true := by
  rw [Array.all_eq_true]
  intro i hi
  rw [arr_size] at hi
  have e := arr_get s i hi
  rw [Array.getElem?_eq_getElem (by rw [arr_size]; exact hi)] at e
  rw [Option.some.inj e]
  rfl
/-- seventeen numbers, out of a variable and into one -/
theorem wpl_load17 {w : World} {ops : Array Oper} {rest : List Oper} {o : Oper} {a : Act} {Q : Exit → Act → World → Prop} {ty : TypeId} (hu : Tryz.prog.underlying ty = some (.array 17 3)) (hi : (Tryz.prog.info? ty).map (·.size) = some 17) (hgd : o.guard = none) (x : Operand) (ho : o.op = .load ty x)
    {g : Nat} (hx : a.eval x = .pointer (some ⟨g, 0, none⟩)) {t : TypeId} {s : Nat → Int} (hg : Bx w g t (arr s)) (h : wpList Tryz.prog ops Q rest (a.put o.dst (.agg (arr s))) w) : wpList Tryz.prog ops Q (o :: rest) a w :=
  wpList_load_row hgd ty x ho g hx t (arr s) (0, 0) _ hg hu rfl (by rw [arr_size]; exact hi) h
theorem wpl_store17 {w : World} {ops : Array Oper} {rest : List Oper} {o : Oper} {a : Act} {Q : Exit → Act → World → Prop} {ty : TypeId} (hi : (Tryz.prog.info? ty).map (·.size) = some 17) (hgd : o.guard = none) (x y : Operand) (ho : o.op = .store ty x y)
    {g : Nat} (hx : a.eval x = .pointer (some ⟨g, 0, none⟩)) {r : Nat → Int} (hy : a.eval y = .agg (arr r)) {t : TypeId} {s : Nat → Int} (hg : Bx w g t (arr s)) (h : wpList Tryz.prog ops Q rest (a.put o.dst undef) (w.setRow g (arr r))) : wpList Tryz.prog ops Q (o :: rest) a w :=
  wpList_store_row hgd ty x y ho g (arr r) hx hy t (arr s) hg (by rw [arr_size]; exact hi) (by rw [arr_size, arr_size]) (arr_one r) h
theorem Bx.setRow {W : World} {b : Nat} {t : TypeId} {vs : Array Value} (h : Bx W b t vs) (us : Array Value) : Bx (W.setRow b us) b t us := by
  have e : W.heap[b]? = some (.cells vs t (0, 0)) := h
  unfold Bx World.setRow
  simp [Array.getElem?_modify, e]
theorem below_setRow {w W : World} (h : Below w.heap.size w W) (b : Nat) (hb : w.heap.size ≤ b) (us : Array Value) : Below w.heap.size w (W.setRow b us) := by
  refine ⟨h.os, h.tape, h.output, ?_, fun k hk => ?_⟩
  · have := h.size; simpa [World.setRow] using this
  · rw [← h.block k hk]
    simp only [World.setRow]
    rw [Array.getElem?_modify, if_neg (by omega)]

set_option maxRecDepth 100000 in
set_option maxHeartbeats 1000000 in
theorem read_in (v : Value) (l : List (Int × Int)) (w : World) (h : RI w v l) (hl : l.length ≤ 140737488355328) :
    Calls Tryz.prog 87 #[v] w fun e W => e = .returned (.agg (arr (sy l))) ∧ Below w.heap.size w W := by
  obtain ⟨a, c, rfl⟩ := h.form
  have H := hide h
  clear h
  obtain ⟨n, hn⟩ : ∃ n, l.length = n := ⟨_, rfl⟩
  rw [hn] at hl H ⊢
  have Hn := hide hn
  clear hn
  obtain ⟨s, hs⟩ : ∃ s, sy l = s := ⟨_, rfl⟩
  rw [hs]
  have HS := hide hs
  clear hs
  go_enter Tryz.func87, Tryz.ntmps87
  go_wp2
  go_loopw [8] (fun iv wr => ∃ (i : Nat), iv = .int .i64 (i : Nat) ∧ i ≤ n ∧ Hid (Bx wr (w.heap.size + 1) 128 (arr (sy (l.take i)))) ∧ Hid (Bx wr w.heap.size 128 (arr (fun _ => 0))) ∧ Hid (Below w.heap.size w wr)) (fun iv _ => n - (intOf iv).toNat)
  case atStart =>
    refine ⟨0, rfl, by omega, hide ?_, hide ?_, hide (ballc (ballc (Below.refl _ _) _) _)⟩
    · have := Bx.new (w.alloc (.cells (arr (fun _ => 0)) 128)) 128 (arr (fun _ => 0))
      rw [show (w.alloc (.cells (arr (fun _ => 0)) 128)).heap.size = w.heap.size + 1 by simp] at this
      exact this
    · exact (Bx.new w 128 (arr (fun _ => 0))).below (ballc (Below.refl _ _) _)
  case round =>
    obtain ⟨i, rfl, hin, HB, HA, HK⟩ := hrel
    by_cases hlt : i < n
    · have hlt' : (i : Int) < (n : Int) := by omega
      obtain ⟨x, hx⟩ : ∃ x, l[i]? = some x := ⟨_, List.getElem?_eq_getElem (by have := unhide Hn; omega)⟩
      obtain ⟨b, off, rfl, hb, q0, q1⟩ := (RI.below (unhide H) (unhide HK)).at hx
      have HN := hide (show sy (l.take (i + 1)) = syF (sy (l.take i)) x by rw [List.take_add_one, hx]; exact sy_snoc _ _)
      clear hx
      obtain ⟨x0, x1⟩ := x
      have hbd := (unhide HB).lt
      have hbd0 : w.heap.size < wr.heap.size := by omega
      have HT := hide (fun W => isSite_in x0 W)
      have HQ := hide (fun W => isSeq_in x1 W)
      simp only at q0 q1
      generalize sy (l.take i) = t at *
      by_cases hT : isT x0 = true
      · rw [hT] at HT
        by_cases hQ : isQ x1 = true
        · rw [hQ] at HQ
          obtain ⟨k, rfl⟩ : ∃ k : Nat, x0 = (k : Int) := ⟨x0.toNat, by unfold isT at hT; simp at hT; omega⟩
          have hk : k ≤ 16 := by unfold isT at hT; simp at hT; omega
          have hk' : (k : Int) < 17 := by omega
          have cA := (unhide HB).cell k _ (arr_get t k (by omega))
          have fA := (unhide HB).frozen k
          have HOK := hide (show okD ((k : Int), x1) = true by rw [okD_parts]; show (isT (k : Int) && isQ x1) = true; rw [hT, hQ]; rfl)
          clear hT hQ
          go_wp2_with (first | (go_at_call 52; refine (unhide HT _).mono ?_; rintro e W1 ⟨rfl, rfl⟩) | (go_at_call 53; refine (unhide HQ _).mono ?_; rintro e W1 ⟨rfl, rfl⟩))
          by_cases hm : t k < x1
          · go_region
            go_wp2
            go_roundw
            case measure => show n - ((i : Int) + 1).toNat < n - ((i : Nat) : Int).toNat; omega
            case rel =>
              refine ⟨i + 1, by go_num, by omega, hide ?_, hide ?_, hide (show Below w.heap.size w (World.drew _) from (ballc (bset (unhide HK) ⟨w.heap.size + 1, k, none⟩ (by show w.heap.size ≤ w.heap.size + 1; omega) _) _).drew)⟩
              · rw [unhide HN, syF, if_pos (unhide HOK)]
                have e := (unhide HB).set k (.int .i64 x1)
                rw [arr_set _ _ _ (by omega)] at e
                show Bx _ _ _ (arr (put1 t (k : Int).toNat (max (t (k : Int).toNat) x1)))
                rw [Int.toNat_natCast, show max (t k) x1 = x1 by omega]
                exact e.below (ballc (Below.refl _ _) _).drew
              · exact ((unhide HA).setO ⟨w.heap.size + 1, k, none⟩ (by simp) _).below (ballc (Below.refl _ _) _).drew
          · have hm2 : x1 ≤ t k := by omega
            go_region
            go_wp2
            go_roundw
            case measure => show n - ((i : Int) + 1).toNat < n - ((i : Nat) : Int).toNat; omega
            case rel =>
              refine ⟨i + 1, by go_num, by omega, hide ?_, hide ?_, hide (show Below w.heap.size w (World.drew _) from (ballc (bset (unhide HK) ⟨w.heap.size + 1, k, none⟩ (by show w.heap.size ≤ w.heap.size + 1; omega) _) _).drew)⟩
              · rw [unhide HN, syF, if_pos (unhide HOK)]
                have e := (unhide HB).set k (.int .i64 (t k))
                rw [arr_set _ _ _ (by omega)] at e
                show Bx _ _ _ (arr (put1 t (k : Int).toNat (max (t (k : Int).toNat) x1)))
                rw [Int.toNat_natCast, show max (t k) x1 = t k by omega]
                exact e.below (ballc (Below.refl _ _) _).drew
              · exact ((unhide HA).setO ⟨w.heap.size + 1, k, none⟩ (by simp) _).below (ballc (Below.refl _ _) _).drew
        · have hQ' : isQ x1 = false := by simpa using hQ
          rw [hQ'] at HQ
          have HOK := hide (show okD (x0, x1) = false by rw [okD_parts]; show (isT x0 && isQ x1) = false; rw [hT, hQ']; rfl)
          clear hT hQ hQ'
          go_wp2_with (first | (go_at_call 52; refine (unhide HT _).mono ?_; rintro e W1 ⟨rfl, rfl⟩) | (go_at_call 53; refine (unhide HQ _).mono ?_; rintro e W1 ⟨rfl, rfl⟩))
          go_roundw
          case measure => show n - ((i : Int) + 1).toNat < n - ((i : Nat) : Int).toNat; omega
          case rel =>
            refine ⟨i + 1, by go_num, by omega, hide ?_, hide ((unhide HA).below (ballc (Below.refl _ wr) _)), hide (ballc (unhide HK) _)⟩
            rw [unhide HN, syF, if_neg (by rw [unhide HOK]; decide)]
            exact (unhide HB).below (ballc (Below.refl _ wr) _)
      · have hT' : isT x0 = false := by simpa using hT
        rw [hT'] at HT
        have HOK := hide (show okD (x0, x1) = false by rw [okD_parts]; show (isT x0 && isQ x1) = false; rw [hT']; rfl)
        clear hT hT'
        go_wp2_with (first | (go_at_call 52; refine (unhide HT _).mono ?_; rintro e W1 ⟨rfl, rfl⟩) | (go_at_call 53; refine (unhide HQ _).mono ?_; rintro e W1 ⟨rfl, rfl⟩))
        go_roundw
        case measure => show n - ((i : Int) + 1).toNat < n - ((i : Nat) : Int).toNat; omega
        case rel =>
          refine ⟨i + 1, by go_num, by omega, hide ?_, hide ((unhide HA).below (ballc (Below.refl _ wr) _)), hide (ballc (unhide HK) _)⟩
          rw [unhide HN, syF, if_neg (by rw [unhide HOK]; decide)]
          exact (unhide HB).below (ballc (Below.refl _ wr) _)
    · have hlt' : ¬ (i : Int) < (n : Int) := by omega
      have Hs : Hid (sy (l.take i) = s) := by rw [← unhide HS, List.take_of_length_le (by have := unhide Hn; omega)]; exact rfl
      rw [unhide Hs] at HB
      have HA2 := hide ((unhide HA).setRow (arr s))
      have HK2 := hide (below_setRow (unhide HK) w.heap.size (Nat.le_refl _) (arr s))
      go_wp2_with (first | refine wpl_load17 und17 info17 rfl _ rfl rfl (unhide HB) ?_ | refine wpl_store17 info17 rfl _ _ rfl rfl rfl (unhide HA) ?_)
      refine bodyPost_ret (results_cell_row rfl _ _ w.heap.size _ _ _ _ rfl (unhide HA2) und17 rfl (by rw [arr_size]; exact info17)) rfl ?_
      exact ⟨rfl, unhide HK2⟩

end Go.Proofs.YtkkolefionbbcaaGreat

/-
  The vector of a row; choose.
-/
set_option linter.unusedSimpArgs false
set_option linter.unusedVariables false
namespace Go.Proofs.YtkkolefionbbcaaGreat
open Go.RowKit Go.Lib

theorem index17 (s : Nat → Int) (k : Nat) (hk : k < 17) (w : World) : (Instr.index 128 (.agg (arr s)) (.int .i64 (k : Nat))).run Tryz.prog w = .ok (.int .i64 (s k)) w := by
  have e := arr_get s k hk
  have h1 : (k : Int) < 17 := by omega
  simp [Instr.index, run_underlying und17, go_sem, arr_size, e, hk, h1]
  rw [Array.getElem?_eq_getElem (by rw [arr_size]; exact hk)] at e
  exact Option.some.inj e

/-- a row of Dots of one's own -/
def OwD (W : World) (B : Nat) (v : Value) (l : List (Int × Int)) : Prop := W.ownsRow B 28 2 v l.length (flat encI l)
theorem OwD.row {W : World} {B : Nat} {v : Value} {l : List (Int × Int)} (h : OwD W B v l) : RI W v l := RC.of_owns h
theorem OwD.base {W : World} {B B' : Nat} {v : Value} {l : List (Int × Int)} (h : OwD W B v l) (hb : B' ≤ B) : OwD W B' v l := by
  obtain ⟨h1, h2⟩ := h
  refine ⟨h1, h2.imp id ?_⟩
  rintro ⟨g, cap, cur, e1, e2, e3⟩
  exact ⟨g, cap, cur, e1, by omega, e3⟩
theorem OwD.form {W : World} {B : Nat} {v : Value} {l : List (Int × Int)} (h : OwD W B v l) : ∃ a c, v = .slice a l.length c := owns_form h

set_option maxRecDepth 100000 in
set_option maxHeartbeats 1000000 in
theorem vector_in (s : Nat → Int) (w : World) :
    Calls Tryz.prog 90 #[.agg (arr s)] w fun e W => ∃ v', e = .returned v' ∧ OwD W w.heap.size v' (vec s) ∧ Below w.heap.size w W := by
  go_enter Tryz.func90, Tryz.ntmps90
  have HB := hide (Bx.new w 128 (arr s))
  go_wp2_with (refine wpl_load17 und17 info17 rfl _ rfl rfl (unhide HB) ?_)
  go_loopw [3, 7] (fun vv iv wr => ∃ (k : Nat), iv = .int .i64 (k : Nat) ∧ k ≤ 17 ∧ Hid (OwD wr w.heap.size vv (vecN s k)) ∧ Hid (Below w.heap.size w wr)) (fun _ iv _ => 17 - (intOf iv).toNat)
  case atStart => exact ⟨0, rfl, by omega, hide (World.ownsRow_nil _ _ _ _), hide (ballc (Below.refl _ _) _)⟩
  case round =>
    obtain ⟨k, rfl, hk, HO, HK⟩ := hrel
    obtain ⟨av, cv, hv⟩ := (unhide HO).form
    by_cases hlt : k < 17
    · have hlt' : (k : Int) < 17 := by omega
      have hi := fun W => index17 s k hlt W
      have hln : (vecN s k).length ≤ 17 := by have := vecN_len s k; omega
      by_cases hp : 0 < s k
      · obtain ⟨v', w', hr, hown, hgr, hat⟩ := append_dot wr 23 w.heap.size _ (vecN s k) k (s k) (unhide HO) (unhide HK).size (by omega)
        subst hv
        have Hr := hide hr
        have HO2 : Hid (OwD w' w.heap.size v' (vecN s (k + 1))) := by rw [vecN_pos hp]; exact hown
        have HK2 := hide ((ballc (unhide HK) (.cells #[.int .i64 (k : Nat), .int .i64 (s k)] 28)).grown hgr (ballc (unhide HK) _).size (fun j hj => ((unhide HO).lt j hj).1))
        clear hr hown hgr hat
        obtain ⟨av', cv', hv'⟩ := (unhide HO2).form
        subst hv'
        go_wp2_with (at_builtin; refine wpList_append_eq rfl _ _ 23 rfl _ _ _ _ rfl rfl (unhide Hr) ?_)
        go_roundw
        case measure => show 17 - ((k : Int) + 1).toNat < 17 - ((k : Nat) : Int).toNat; omega
        case rel => exact ⟨k + 1, by go_num, by omega, HO2, HK2⟩
      · subst hv
        have HO2 : Hid (OwD wr w.heap.size (.slice av (vecN s k).length cv) (vecN s (k + 1))) := by rw [vecN_neg hp]; exact unhide HO
        go_wp2
        go_roundw
        case measure => show 17 - ((k : Int) + 1).toNat < 17 - ((k : Nat) : Int).toNat; omega
        case rel => exact ⟨k + 1, by go_num, by omega, HO2, HK⟩
    · have hlt' : ¬ (k : Int) < 17 := by omega
      obtain rfl : k = 17 := by omega
      subst hv
      go_wp2
      go_ret
      exact ⟨_, rfl, unhide HO, unhide HK⟩


theorem arr_congr {s t : Nat → Int} (h : ∀ i, i < 17 → s i = t i) : arr s = arr t := by
  unfold arr
  congr 1
  exact List.map_congr_left fun i hi => by rw [h i (List.mem_range.1 hi)]
theorem Bx.setRowO {W : World} {b g : Nat} {t : TypeId} {vs : Array Value} (h : Bx W b t vs) (hg : g ≠ b) (us : Array Value) : Bx (W.setRow g us) b t vs := by
  have e : W.heap[b]? = some (.cells vs t (0, 0)) := h
  unfold Bx World.setRow
  simp [Array.getElem?_modify, e, hg]
/-- so far chosen -/
def mixN (f : Int → Int → Int) (s t : Nat → Int) (k : Nat) : Nat → Int := fun i => if i < k then f (s i) (t i) else s i
theorem mixN_zero (f : Int → Int → Int) (s t : Nat → Int) : mixN f s t 0 = s := by funext i; simp [mixN]
theorem mixN_step (f : Int → Int → Int) (s t : Nat → Int) (k : Nat) : put1 (mixN f s t k) k (f (s k) (t k)) = mixN f s t (k + 1) := by
  funext i
  unfold put1 mixN
  by_cases h : i = k
  · subst h; rw [if_pos rfl, if_pos (by omega)]
  · rw [if_neg h]
    by_cases h2 : i < k
    · rw [if_pos h2, if_pos (by omega)]
    · rw [if_neg h2, if_neg (by omega)]
theorem mixN_at (f : Int → Int → Int) (s t : Nat → Int) (k : Nat) : mixN f s t k k = s k := by simp [mixN]

set_option maxRecDepth 100000 in
set_option maxHeartbeats 2000000 in
theorem choosegreater_in (v u : Value) (l m : List (Int × Int)) (w : World) (h : RI w v l) (k : RI w u m) (hl : l.length ≤ 140737488355328) (hm : m.length ≤ 140737488355328) :
    Calls Tryz.prog 88 #[v, u, .func (.func 89) #[] #[]] w fun e W => e = .returned (.agg (arr (mrg (sy l) (sy m)))) ∧ Below w.heap.size w W := by
  obtain ⟨a, c, rfl⟩ := h.form
  obtain ⟨a2, c2, rfl⟩ := k.form
  have R1 := hide (fun (o : Obj) => read_in _ l (w.alloc o) (h.below (ballc (Below.refl _ _) o)) hl)
  have K := hide k
  generalize sy l = s at *
  obtain ⟨t, ht⟩ : ∃ t, sy m = t := ⟨_, rfl⟩
  rw [ht]
  replace ht := hide ht
  clear h k
  go_enter Tryz.func88, Tryz.ntmps88
  go_wp2_with fail
  refine (unhide R1 _).mono ?_
  rintro e W1 ⟨rfl, hb1⟩
  have A1 : Bx W1 w.heap.size 128 (arr (fun _ => 0)) := (Bx.new w 128 (arr (fun _ => 0))).below hb1
  replace hb1 := bnext (ballc (Below.refl _ w) (.cells (arr (fun _ => 0)) 128)) hb1
  have R2 := hide (read_in _ m W1 ((unhide K).below hb1) hm)
  rw [unhide ht] at R2
  replace A1 := hide A1
  replace hb1 := hide hb1
  go_wp2_with fail
  refine (unhide R2).mono ?_
  rintro e W2 ⟨rfl, hb2⟩
  have A2 := hide ((unhide A1).below hb2)
  have B2 := hide (bnext (unhide hb1) hb2)
  clear R1 R2 A1 hb1 hb2 K
  have hw2 := (unhide A2).lt
  have E1 : Hid (Bx ((W2.alloc (.cells (arr (fun _ => 0)) 128)).alloc (.cells (arr (fun _ => 0)) 128)) W2.heap.size 128 (arr (fun _ => 0))) := (Bx.new W2 _ _).below (ballc (Below.refl _ _) _)
  have E2 : Hid (Bx (((W2.alloc (.cells (arr (fun _ => 0)) 128)).alloc (.cells (arr (fun _ => 0)) 128)).setRow W2.heap.size (arr s)) (W2.heap.size + 1) 128 (arr (fun _ => 0))) := by
    have := Bx.new (W2.alloc (.cells (arr (fun _ => 0)) 128)) 128 (arr (fun _ => 0))
    rw [show (W2.alloc (.cells (arr (fun _ => 0)) 128)).heap.size = W2.heap.size + 1 by simp] at this
    exact this.setRowO (by omega) _
  go_wp2_with (first | refine wpl_store17 info17 rfl _ _ rfl rfl rfl (unhide E1) ?_ | refine wpl_store17 info17 rfl _ _ rfl rfl rfl (unhide E2) ?_)
  go_loopw [14] (fun iv wr => ∃ (k : Nat), iv = .int .i64 (k : Nat) ∧ k ≤ 17 ∧ Hid (Bx wr W2.heap.size 128 (arr (mixN max s t k))) ∧ Hid (Bx wr (W2.heap.size + 1) 128 (arr t)) ∧ Hid (Bx wr w.heap.size 128 (arr (fun _ => 0))) ∧ Hid (Below w.heap.size w wr)) (fun iv _ => 17 - (intOf iv).toNat)
  case atStart =>
    refine ⟨0, rfl, by omega, hide ?_, hide ?_, hide ?_, hide ?_⟩
    · rw [mixN_zero]; exact ((unhide E1).setRow _).setRowO (by omega) _
    · exact (unhide E2).setRow _
    · exact ((((unhide A2).below (ballc (Below.refl _ _) _)).below (ballc (Below.refl _ _) _)).setRowO (by omega) _).setRowO (by omega) _
    · exact below_setRow (below_setRow (ballc (ballc (unhide B2) _) _) _ (by omega) _) _ (by omega) _
  case round =>
    obtain ⟨k, rfl, hk, HS, HT, HA, HK⟩ := hrel
    clear E1 E2 A2 B2
    have hl1 := (unhide HT).lt
    by_cases hlt : k < 17
    · have hlt' : (k : Int) < 17 := by omega
      have c1 := (unhide HS).cell k _ (arr_get _ k hlt)
      have f1 := (unhide HS).frozen k
      have c2 := (unhide HT).cell k _ (arr_get _ k hlt)
      rw [mixN_at] at c1
      have HP := hide (fun W => greater_in (s k) (t k) W)
      go_wp2
      go_region_with (go_at_call 89; refine (unhide HP _).mono ?_; rintro e W9 ⟨rfl, rfl⟩)
      all_goals
        go_wp2
        go_roundw
        case measure => show 17 - ((k : Int) + 1).toNat < 17 - ((k : Nat) : Int).toNat; omega
        case rel =>
          refine ⟨k + 1, by go_num, by omega, hide ?_, hide ?_, hide ?_, hide ?_⟩
          · have e := (unhide HS).set k (.int .i64 (max (s k) (t k)))
            rw [arr_set _ _ _ hlt, mixN_step] at e
            exact e.below (Below.refl _ _).drew
          · exact ((unhide HT).setO ⟨W2.heap.size, k, none⟩ (by simp) _).below (Below.refl _ _).drew
          · exact ((unhide HA).setO ⟨W2.heap.size, k, none⟩ (by show w.heap.size ≠ W2.heap.size; omega) _).below (Below.refl _ _).drew
          · exact (bset (unhide HK) ⟨W2.heap.size, k, none⟩ (by show w.heap.size ≤ W2.heap.size; omega) _).drew
    · have hlt' : ¬ (k : Int) < 17 := by omega
      obtain rfl : k = 17 := by omega
      have e : arr (mixN max s t 17) = arr (mrg s t) := arr_congr fun i hi => by unfold mixN mrg; rw [if_pos hi]
      rw [e] at HS
      have HA2 := hide ((unhide HA).setRow (arr (mrg s t)))
      have HK2 := hide (below_setRow (unhide HK) w.heap.size (Nat.le_refl _) (arr (mrg s t)))
      clear e
      go_wp2_with (first | refine wpl_load17 und17 info17 rfl _ rfl rfl (unhide HS) ?_ | refine wpl_store17 info17 rfl _ _ rfl rfl rfl (unhide HA) ?_)
      refine bodyPost_ret (results_cell_row rfl _ _ w.heap.size _ _ _ _ rfl (unhide HA2) und17 rfl (by rw [arr_size]; exact info17)) rfl ?_
      exact ⟨rfl, unhide HK2⟩

end Go.Proofs.YtkkolefionbbcaaGreat

/-
  Check, Get, Has, Covers, Merge, Least, Sum, Add.
-/
set_option linter.unusedSimpArgs false
set_option linter.unusedVariables false
namespace Go.Proofs.YtkkolefionbbcaaGreat
open Go.RowKit Go.Lib

theorem drop_at {α : Type} {l : List α} {i : Nat} {x : α} (h : l[i]? = some x) : l.drop i = x :: l.drop (i + 1) := by
  have hil := (List.getElem?_eq_some_iff.1 h).1
  rw [List.drop_eq_getElem_cons hil]
  congr 1
  rw [List.getElem?_eq_getElem hil] at h
  simpa using h

set_option maxRecDepth 100000 in
set_option maxHeartbeats 1000000 in
theorem Check_in (v : Value) (l : List (Int × Int)) (w : World) (h : RI w v l) (hl : l.length ≤ 140737488355328) :
    Calls Tryz.prog 32 #[v] w fun e W => e = .returned (.int .i64 (chk l)) ∧ Below w.heap.size w W := by
  obtain ⟨a, c, rfl⟩ := h.form
  have H := hide h
  clear h
  obtain ⟨n, hn⟩ : ∃ n, l.length = n := ⟨_, rfl⟩
  rw [hn] at hl H ⊢
  have Hn := hide hn
  clear hn
  obtain ⟨E, hE⟩ : ∃ E, chk l = E := ⟨_, rfl⟩
  rw [hE]
  have HE := hide hE
  clear hE
  go_enter Tryz.func32, Tryz.ntmps32
  go_wp2
  go_loopw [3, 8] (fun av iv wr => ∃ (ah : Int) (i : Nat), av = .int .i64 ah ∧ iv = .int .i64 (i : Nat) ∧ i ≤ n ∧ Hid (chkF ah (l.drop i) = E) ∧ Hid (Below w.heap.size w wr)) (fun _ iv _ => n - (intOf iv).toNat)
  case atStart => exact ⟨0, 0, rfl, rfl, by omega, hide (unhide HE), hide (Below.refl _ _)⟩
  case round =>
    obtain ⟨ah, i, rfl, rfl, hin, HC, HK⟩ := hrel
    by_cases hlt : i < n
    · have hlt' : (i : Int) < (n : Int) := by omega
      obtain ⟨x, hx⟩ : ∃ x, l[i]? = some x := ⟨_, List.getElem?_eq_getElem (by have := unhide Hn; omega)⟩
      obtain ⟨b, off, rfl, hb, q0, q1⟩ := (RI.below (unhide H) (unhide HK)).at hx
      rw [drop_at hx] at HC
      clear hx
      obtain ⟨x0, x1⟩ := x
      have HT := hide (fun W => isSite_in x0 W)
      have HQ := hide (fun W => isSeq_in x1 W)
      simp only at q0 q1
      by_cases hT : isT x0 = true
      · have kT : 1 ≤ x0 ∧ x0 ≤ 16 := by unfold isT at hT; simpa using hT
        rw [hT] at HT
        by_cases hQ : isQ x1 = true
        · have kQ : 1 ≤ x1 ∧ x1 ≤ 2147483647 := by unfold isQ at hQ; simpa using hQ
          rw [hQ] at HQ
          by_cases ho : x0 ≤ ah
          · have he : Hid (E = 9) := by
              rw [← unhide HC, chkF, if_neg (by simpa using kT), if_neg (by simpa using kQ), if_pos ho]; exact rfl
            clear kT kQ hT hQ
            go_wp2_with (first | (go_at_call 52; refine (unhide HT _).mono ?_; rintro e W1 ⟨rfl, rfl⟩) | (go_at_call 53; refine (unhide HQ _).mono ?_; rintro e W1 ⟨rfl, rfl⟩))
            go_ret
            exact ⟨by rw [unhide he]; rfl, ballc (unhide HK) _⟩
          · have HC2 : Hid (chkF x0 (l.drop (i + 1)) = E) := by
              rw [← unhide HC, chkF, if_neg (by simpa using kT), if_neg (by simpa using kQ), if_neg ho]; exact rfl
            clear kT kQ hT hQ
            go_wp2_with (first | (go_at_call 52; refine (unhide HT _).mono ?_; rintro e W1 ⟨rfl, rfl⟩) | (go_at_call 53; refine (unhide HQ _).mono ?_; rintro e W1 ⟨rfl, rfl⟩))
            go_roundw
            case measure => show n - ((i : Int) + 1).toNat < n - ((i : Nat) : Int).toNat; omega
            case rel => exact ⟨x0, i + 1, rfl, by go_num, by omega, HC2, hide (ballc (unhide HK) _)⟩
        · have kQ : ¬ (1 ≤ x1 ∧ x1 ≤ 2147483647) := by unfold isQ at hQ; simpa using hQ
          rw [show isQ x1 = false by simpa using hQ] at HQ
          have he : Hid (E = 6) := by
            rw [← unhide HC, chkF, if_neg (by simpa using kT), if_pos (by simpa using kQ)]; exact rfl
          clear kT kQ hT hQ
          go_wp2_with (first | (go_at_call 52; refine (unhide HT _).mono ?_; rintro e W1 ⟨rfl, rfl⟩) | (go_at_call 53; refine (unhide HQ _).mono ?_; rintro e W1 ⟨rfl, rfl⟩))
          go_ret
          exact ⟨by rw [unhide he]; rfl, ballc (unhide HK) _⟩
      · have kT : ¬ (1 ≤ x0 ∧ x0 ≤ 16) := by unfold isT at hT; simpa using hT
        rw [show isT x0 = false by simpa using hT] at HT
        have he : Hid (E = 1) := by
          rw [← unhide HC, chkF, if_pos (by simpa using kT)]; exact rfl
        clear kT hT
        go_wp2_with (first | (go_at_call 52; refine (unhide HT _).mono ?_; rintro e W1 ⟨rfl, rfl⟩) | (go_at_call 53; refine (unhide HQ _).mono ?_; rintro e W1 ⟨rfl, rfl⟩))
        go_ret
        exact ⟨by rw [unhide he]; rfl, ballc (unhide HK) _⟩
    · have hlt' : ¬ (i : Int) < (n : Int) := by omega
      have he : Hid (E = 0) := by
        rw [← unhide HC, List.drop_eq_nil_of_le (by have := unhide Hn; omega), chkF]; exact rfl
      go_wp2
      go_ret
      exact ⟨by rw [unhide he]; rfl, unhide HK⟩

set_option maxRecDepth 100000 in
theorem Get_in (v : Value) (l : List (Int × Int)) (site : Int) (w : World) (h : RI w v l) (hl : l.length ≤ 140737488355328) :
    Calls Tryz.prog 70 #[v, .int .i64 site] w fun e W => e = .returned (.int .i64 (getV l site)) ∧ Below w.heap.size w W := by
  have HR := hide (read_in v l w h hl)
  obtain ⟨a, c, rfl⟩ := h.form
  have HT := hide (isSite_in site w)
  unfold getV
  by_cases hT : isT site = true
  · have kT : 1 ≤ site ∧ site ≤ 16 := by unfold isT at hT; simpa using hT
    rw [hT] at HT
    rw [if_pos kT]
    generalize sy l = s at *
    obtain ⟨k, rfl⟩ : ∃ k : Nat, site = (k : Int) := ⟨site.toNat, by omega⟩
    have hi := fun W => index17 s k (by omega) W
    rw [Int.toNat_natCast]
    clear hT kT h
    go_enter Tryz.func70, Tryz.ntmps70
    go_wp2_with (first | (go_at_call 52; refine (unhide HT).mono ?_; rintro e W1 ⟨rfl, rfl⟩) | (go_at_call 87; refine (unhide HR).mono ?_; rintro e W1 ⟨rfl, hb⟩; replace hb := hide hb))
    go_ret
    exact ⟨rfl, unhide hb⟩
  · have kT : ¬ (1 ≤ site ∧ site ≤ 16) := by unfold isT at hT; simpa using hT
    rw [show isT site = false by simpa using hT] at HT
    rw [if_neg kT]
    clear hT kT h HR
    go_enter Tryz.func70, Tryz.ntmps70
    go_wp2_with (go_at_call 52; refine (unhide HT).mono ?_; rintro e W1 ⟨rfl, rfl⟩)
    go_ret
    exact ⟨rfl, Below.refl _ _⟩

set_option maxRecDepth 100000 in
theorem Covers_in (v u : Value) (l m : List (Int × Int)) (w : World) (h : RI w v l) (k : RI w u m) (hl : l.length ≤ 140737488355328) (hm : m.length ≤ 140737488355328) :
    Calls Tryz.prog 71 #[v, u] w fun e W => e = .returned (.bool (cov (sy l) (sy m))) ∧ Below w.heap.size w W := by
  have HC := hide (choosegreater_in v u l m w h k hl hm)
  have hq := fun W => eqA (mrg (sy l) (sy m)) (sy l) W
  have e : ((List.range 17).all fun i => mrg (sy l) (sy m) i == sy l i) = cov (sy l) (sy m) := by
    unfold cov mrg
    congr 1
    funext i
    rw [Bool.eq_iff_iff]
    simp
    omega
  rw [e] at hq
  clear e
  obtain ⟨a, c, rfl⟩ := h.form
  obtain ⟨a2, c2, rfl⟩ := k.form
  have H := hide h
  clear h k
  generalize cov (sy l) (sy m) = R at *
  obtain ⟨s, hs⟩ : ∃ s, sy l = s := ⟨_, rfl⟩
  rw [hs] at hq HC
  replace hs := hide hs
  go_enter Tryz.func71, Tryz.ntmps71
  go_wp2_with fail
  refine (unhide HC).mono ?_
  rintro e W1 ⟨rfl, hb1⟩
  have HR := hide (read_in _ l W1 ((unhide H).below hb1) hl)
  rw [unhide hs] at HR
  replace hb1 := hide hb1
  go_wp2_with fail
  refine (unhide HR).mono ?_
  rintro e W2 ⟨rfl, hb2⟩
  replace hb2 := hide hb2
  go_wp2
  go_ret
  exact ⟨rfl, bnext (unhide hb1) (unhide hb2)⟩

set_option maxRecDepth 100000 in
theorem Sum_in (v : Value) (l : List (Int × Int)) (w : World) (h : RI w v l) (hl : l.length ≤ 140737488355328) :
    Calls Tryz.prog 91 #[v] w fun e W => e = .returned (.int .i64 (sum (sy l))) ∧ Below w.heap.size w W := by
  have HR := hide (read_in v l w h hl)
  have HG := hide (sy_good l)
  obtain ⟨a, c, rfl⟩ := h.form
  generalize sy l = s at *
  clear h
  go_enter Tryz.func91, Tryz.ntmps91
  go_wp2_with (go_at_call 87; refine (unhide HR).mono ?_; rintro e W1 ⟨rfl, hb⟩; replace hb := hide hb)
  go_loopw [3, 8] (fun sv iv wr => ∃ (k : Nat), sv = .int .i64 (sumN s k) ∧ iv = .int .i64 (k : Nat) ∧ k ≤ 17 ∧ wr = W1) (fun _ iv _ => 17 - (intOf iv).toNat)
  case atStart => exact ⟨0, rfl, rfl, by omega, rfl⟩
  case round =>
    obtain ⟨k, rfl, rfl, hk, rfl⟩ := hrel
    by_cases hlt : k < 17
    · have hlt' : (k : Int) < 17 := by omega
      have hi := fun W => index17 s k hlt W
      have h1 := sumN_in (unhide HG) k
      have h2 := (unhide HG).lo k
      have h3 := (unhide HG).hi k
      have h4 : wrap64 (sumN s k + s k) = sumN s k + s k := IntWalk.wrap64_in _ (by omega)
      have h5 : IntKind.i64.wrap (sumN s k + s k) = sumN s k + s k := IntWalk.i64_in _ (by omega)
      have h6 := hide (show sumN s (k + 1) = sumN s k + s k from rfl)
      generalize sumN s k = X at *
      generalize s k = Y at *
      go_wp2
      go_roundw
      case measure => show 17 - ((k : Int) + 1).toNat < 17 - ((k : Nat) : Int).toNat; omega
      case rel => exact ⟨k + 1, by rw [unhide h6], by go_num, by omega, by trivial⟩
    · have hlt' : ¬ (k : Int) < 17 := by omega
      obtain rfl : k = 17 := by omega
      go_wp2
      go_ret
      exact ⟨rfl, unhide hb⟩

end Go.Proofs.YtkkolefionbbcaaGreat

/-
  Has, Add.
-/
set_option linter.unusedSimpArgs false
set_option linter.unusedVariables false
namespace Go.Proofs.YtkkolefionbbcaaGreat
open Go.RowKit Go.Lib

set_option maxRecDepth 100000 in
set_option maxHeartbeats 1000000 in
theorem Has_in (v : Value) (l : List (Int × Int)) (x0 x1 : Int) (w : World) (h : RI w v l) (hl : l.length ≤ 140737488355328) :
    Calls Tryz.prog 65 #[v, .agg #[.int .i64 x0, .int .i64 x1]] w fun e W => e = .returned (.bool (hasV l (x0, x1))) ∧ Below w.heap.size w W := by
  have HG := hide (fun (W : World) (hb : Below w.heap.size w W) => Get_in v l x0 W (h.below hb) hl)
  obtain ⟨R, hR⟩ : ∃ R, hasV l (x0, x1) = R := ⟨_, rfl⟩
  rw [hR]
  unfold hasV at hR
  simp only at hR
  obtain ⟨a, c, rfl⟩ := h.form
  clear h
  generalize getV l x0 = G at *
  have HX := hide (Bx.new w 28 #[.int .i64 x0, .int .i64 x1])
  by_cases h1 : 1 ≤ x1
  · by_cases h2 : x1 ≤ G
    · obtain rfl : true = R := by rw [← hR]; simp [h1, h2]
      clear hR
      go_enter Tryz.func65, Tryz.ntmps65
      go_wp2
      go_region_with (go_at_call 70; refine (unhide HG _ (ballc (Below.refl _ _) _).drew).mono ?_; rintro e W1 ⟨rfl, hb⟩; have d1 := ((unhide HX).below (Below.refl _ _).drew).below hb; have c0 := d1.cell 0 _ rfl; have c1 := d1.cell 1 _ rfl; have b1 := d1.lt; replace hb := hide hb; clear d1)
      all_goals
        go_wp2
        go_ret
        exact ⟨rfl, bnext (ballc (Below.refl _ _) _).drew (unhide hb)⟩
    · obtain rfl : false = R := by rw [← hR]; simp [h2]
      have hd : decide (x1 ≤ G) = false := by simpa using h2
      clear hR
      go_enter Tryz.func65, Tryz.ntmps65
      go_wp2
      go_region_with (go_at_call 70; refine (unhide HG _ (ballc (Below.refl _ _) _).drew).mono ?_; rintro e W1 ⟨rfl, hb⟩; have d1 := ((unhide HX).below (Below.refl _ _).drew).below hb; have c0 := d1.cell 0 _ rfl; have c1 := d1.cell 1 _ rfl; have b1 := d1.lt; replace hb := hide hb; clear d1)
      all_goals
        go_wp2
        go_ret
        refine ⟨?_, bnext (ballc (Below.refl _ _) _).drew (unhide hb)⟩
        first
          | rfl
          | (show Ending.returned (.bool (decide (x1 ≤ G))) = _; rw [hd])
  · obtain rfl : false = R := by rw [← hR]; simp [h1]
    have hd : decide (1 ≤ x1) = false := by simpa using h1
    clear hR
    go_enter Tryz.func65, Tryz.ntmps65
    go_wp2
    go_region
    go_wp2
    go_ret
    exact ⟨rfl, (ballc (Below.refl _ _) _).drew⟩

theorem addV_ways (l : List (Int × Int)) (x0 x1 : Int) : (isT x0 = false ∧ addV l (x0, x1) = ([], 1)) ∨ (isT x0 = true ∧ x1 < 1 ∧ addV l (x0, x1) = ([], 1)) ∨ (isT x0 = true ∧ 1 ≤ x1 ∧ 2147483647 < x1 ∧ addV l (x0, x1) = ([], 17)) ∨ (isT x0 = true ∧ 1 ≤ x1 ∧ x1 ≤ 2147483647 ∧ x1 - 1 ≠ sy l x0.toNat ∧ addV l (x0, x1) = ([], 9)) ∨ (isT x0 = true ∧ 1 ≤ x1 ∧ x1 ≤ 2147483647 ∧ x1 - 1 = sy l x0.toNat ∧ addV l (x0, x1) = (vec (put1 (sy l) x0.toNat x1), 0)) := by
  unfold addV isT
  by_cases h1 : 1 ≤ x0 ∧ x0 ≤ 16
  · by_cases h2 : x1 < 1
    · exact .inr (.inl ⟨by simpa using h1, h2, by rw [if_pos (.inr h2)]⟩)
    · by_cases h3 : 2147483647 < x1
      · exact .inr (.inr (.inl ⟨by simpa using h1, by omega, h3, by rw [if_neg (by simp; omega), if_pos h3]⟩))
      · by_cases h4 : x1 - 1 = sy l x0.toNat
        · exact .inr (.inr (.inr (.inr ⟨by simpa using h1, by omega, by omega, h4, by rw [if_neg (by simp; omega), if_neg h3, if_neg (by simpa using h4)]⟩)))
        · exact .inr (.inr (.inr (.inl ⟨by simpa using h1, by omega, by omega, h4, by rw [if_neg (by simp; omega), if_neg h3, if_pos h4]⟩)))
  · exact .inl ⟨by simpa using h1, by rw [if_pos (.inl h1)]⟩

set_option maxRecDepth 100000 in
set_option maxHeartbeats 1000000 in
theorem Add_in (v : Value) (l : List (Int × Int)) (x0 x1 : Int) (w : World) (h : RI w v l) (hl : l.length ≤ 140737488355328) (hx : x1 ≤ 9223372036854775807) :
    Calls Tryz.prog 72 #[v, .agg #[.int .i64 x0, .int .i64 x1]] w fun e W => ∃ v', e = .returned (.tuple #[v', .int .i64 (addV l (x0, x1)).2]) ∧ OwD W w.heap.size v' (addV l (x0, x1)).1 ∧ Below w.heap.size w W := by
  have HR := hide (read_in v l (w.alloc (.cells #[.int .i64 x0, .int .i64 x1] 28)) (h.below (ballc (Below.refl _ _) _)) hl)
  obtain ⟨a, c, rfl⟩ := h.form
  clear h
  have HX := hide (Bx.new w 28 #[.int .i64 x0, .int .i64 x1])
  have HT := hide (fun W => isSite_in x0 W)
  rcases addV_ways l x0 x1 with ⟨h1, e⟩ | ⟨h1, h2, e⟩ | ⟨h1, h2, h3, e⟩ | ⟨h1, h2, h3, h4, e⟩ | ⟨h1, h2, h3, h4, e⟩
  all_goals
    rw [e]
    rw [h1] at HT
    clear e
    generalize sy l = s at *
    go_enter Tryz.func72, Tryz.ntmps72
    go_wp2_with fail
    refine (unhide HR).mono ?_
    rintro e W1 ⟨rfl, hb1⟩
    have X1 := (unhide HX).below hb1
    replace hb1 := hide (bnext (ballc (Below.refl _ w) (.cells #[.int .i64 x0, .int .i64 x1] 28)) hb1)
    have hw1 := X1.lt
    have E1 := hide (Bx.new W1 128 (arr (fun _ => 0)))
    obtain ⟨X, hX⟩ : ∃ X, (W1.alloc (.cells #[.int .i64 0, .int .i64 0, .int .i64 0, .int .i64 0, .int .i64 0, .int .i64 0, .int .i64 0, .int .i64 0, .int .i64 0, .int .i64 0, .int .i64 0, .int .i64 0, .int .i64 0, .int .i64 0, .int .i64 0, .int .i64 0, .int .i64 0] 128)).setRow W1.heap.size (arr s) = X := ⟨_, rfl⟩
    have E2 : Bx X W1.heap.size 128 (arr s) := by rw [← hX]; exact (unhide E1).setRow (arr s)
    have X2 : Bx X w.heap.size 28 #[.int .i64 x0, .int .i64 x1] := by rw [← hX]; exact (X1.below (ballc (Below.refl _ _) (.cells (arr (fun _ => 0)) 128))).setRowO (g := W1.heap.size) (by omega) (arr s)
    have B2 : Below w.heap.size w X := by rw [← hX]; exact (below_setRow (ballc (unhide hb1) (.cells (arr (fun _ => 0)) 128)) W1.heap.size (by omega) (arr s))
    have c0 := X2.cell 0 _ rfl
    have c1 := X2.cell 1 _ rfl
    have hw2 := X2.lt
    replace hX := hide hX
    replace E2 := hide E2
    replace X2 := hide X2
    replace B2 := hide B2
    clear X1 HR HX
    go_wp2_with (first | (refine wpl_store17 info17 rfl _ _ rfl rfl rfl (unhide E1) ?_; rw [unhide hX]) | (go_at_call 52; refine (unhide HT _).mono ?_; rintro e W1 ⟨rfl, rfl⟩))
  · refine bodyPost_ret (results_tmp2 rfl _ _ _) rfl ?_
    exact ⟨_, rfl, World.ownsRow_nil _ _ _ _, unhide B2⟩
  · refine bodyPost_ret (results_tmp2 rfl _ _ _) rfl ?_
    exact ⟨_, rfl, World.ownsRow_nil _ _ _ _, unhide B2⟩
  · refine bodyPost_ret (results_tmp2 rfl _ _ _) rfl ?_
    exact ⟨_, rfl, World.ownsRow_nil _ _ _ _, unhide B2⟩
  · have kT : 1 ≤ x0 ∧ x0 ≤ 16 := by unfold isT at h1; simpa using h1
    obtain ⟨k, rfl⟩ : ∃ k : Nat, x0 = (k : Int) := ⟨x0.toNat, by omega⟩
    rw [Int.toNat_natCast] at h4
    have hk : k < 17 := by omega
    have hk' : (k : Int) < 17 := by omega
    have cA := (unhide E2).cell k _ (arr_get s k hk)
    have hwx : wrap64 (x1 - 1) = x1 - 1 := IntWalk.wrap64_in _ (by omega)
    have hwy : IntKind.i64.wrap (x1 - 1) = x1 - 1 := IntWalk.i64_in _ (by omega)
    have hq : (x1 - 1 == s k) = false := by simpa using h4
    clear h4 kT h1
    go_region
    go_wp2
    refine bodyPost_ret (results_tmp2 rfl _ _ _) rfl ?_
    exact ⟨_, rfl, World.ownsRow_nil _ _ _ _, (unhide B2).drew⟩
  · have kT : 1 ≤ x0 ∧ x0 ≤ 16 := by unfold isT at h1; simpa using h1
    obtain ⟨k, rfl⟩ : ∃ k : Nat, x0 = (k : Int) := ⟨x0.toNat, by omega⟩
    rw [Int.toNat_natCast] at h4
    have hk : k < 17 := by omega
    have hk' : (k : Int) < 17 := by omega
    have cA := (unhide E2).cell k _ (arr_get s k hk)
    have fA := (unhide E2).frozen k
    have hw3 := (unhide E2).lt
    have hwx : wrap64 (x1 - 1) = x1 - 1 := IntWalk.wrap64_in _ (by omega)
    have hwy : IntKind.i64.wrap (x1 - 1) = x1 - 1 := IntWalk.i64_in _ (by omega)
    have hq : (x1 - 1 == s k) = true := by simpa using h4
    have E3 := (unhide E2).set k (.int .i64 x1)
    rw [arr_set _ _ _ hk] at E3
    have B3 := hide (bset (unhide B2) ⟨W1.heap.size, k, none⟩ (by show w.heap.size ≤ W1.heap.size; omega) (.int .i64 x1)).drew
    replace E3 := hide (E3.below (Below.refl _ _).drew)
    have HV := hide (vector_in (put1 s k x1) (X.setCell ⟨W1.heap.size, k, none⟩ (.int .i64 x1)).drew)
    clear h4 kT h1
    go_region
    go_wp2_with (first | refine wpl_load17 und17 info17 rfl _ rfl rfl (unhide E3) ?_ | (go_at_call 90; refine (unhide HV).mono ?_; rintro e W5 ⟨v', rfl, ho, hb⟩; obtain ⟨av, cv, rfl⟩ := ho.form; replace ho := hide ho; replace hb := hide hb))
    refine bodyPost_ret (results_tmp2 rfl _ _ _) rfl ?_
    exact ⟨_, rfl, (unhide ho).base (unhide B3).size, bnext (unhide B3) (unhide hb)⟩

end Go.Proofs.YtkkolefionbbcaaGreat
