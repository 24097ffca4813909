/-
  Rows of bytes.
-/
import Derived.Test.YteomalmflebkhaaZNA
import Derived.Lib.BufferWrite
set_option linter.unusedSimpArgs false
set_option linter.unusedVariables false
namespace Go.Proofs.Yteomalmflebkhaa
open Go.RowKit Go.Lib

def bC (l : List Int) : List Value := l.map fun x => Value.int .u8 x
theorem bC_len (l : List Int) : (bC l).length = l.length := by simp [bC]
theorem bC_app (l m : List Int) : bC (l ++ m) = bC l ++ bC m := by simp [bC]
theorem bC_one (l : List Int) : ∀ u ∈ bC l, u.oneCell' = true := fun u hu => by
  unfold bC at hu
  obtain ⟨x, _, rfl⟩ := List.mem_map.1 hu
  rfl
theorem bC_take (l : List Int) (n : Nat) : bC (l.take n) = (bC l).take n := by simp [bC]
theorem bC_drop (l : List Int) (n : Nat) : bC (l.drop n) = (bC l).drop n := by simp [bC]
/-- a row of bytes -/
def RB (W : World) (v : Value) (l : List Int) : Prop := RC W v l.length (bC l)
theorem RB.below {W W' : World} {v : Value} {l : List Int} (h : RB W v l) (hb : Below W.heap.size W W') : RB W' v l := RC.below h hb
theorem RB.form {W : World} {v : Value} {l : List Int} (h : RB W v l) : ∃ a c, v = .slice a l.length c := RC.form h
theorem RB.nil (W : World) (a : Option Addr) (c : Nat) : RB W (.slice a 0 c) [] := .inl ⟨rfl, _, _, rfl⟩
theorem RB.at {W : World} {a : Option Addr} {n c : Nat} {l : List Int} (h : RB W (.slice a n c) l) {i : Nat} {x : Int} (hi : l[i]? = some x) : ∃ b off, a = some ⟨b, off, none⟩ ∧ b < W.heap.size ∧ W.cell? ⟨b, off + i, none⟩ = some (.int .u8 x) := by
  have hl := (List.getElem?_eq_some_iff.1 hi).1
  rcases h with ⟨h0, _⟩ | ⟨b, off, cap, e, h1, h2, hc⟩
  · omega
  · simp at e
    obtain ⟨rfl, _⟩ := e
    exact ⟨b, off, rfl, h2, hc i _ (by simp [bC, hi])⟩
theorem RB.kp {N : Nat → Prop} {W W' : World} {v : Value} {l : List Int} (h : RB W v l) (k : Kp N W W') (hn : ∀ i, v.ownBlock = some i → ¬ N i) : RB W' v l := by
  rcases h with h | ⟨b, off, cap, rfl, h1, h2, hc⟩
  · exact .inl h
  · refine .inr ⟨b, off, cap, rfl, h1, Nat.lt_of_lt_of_le h2 k.size, fun j x hx => ?_⟩
    rw [← hc j x hx]
    unfold World.cell?
    rw [k.block b h2 (hn b rfl)]
theorem RB.take {W : World} {a : Option Addr} {c : Nat} {l : List Int} (h : RB W (.slice a l.length c) l) {k n : Nat} (hk : k ≤ l.length) (hn : n ≤ k → True) : RB W (.slice a k c) (l.take k) := by
  have e : (l.take k).length = k := by rw [List.length_take]; omega
  unfold RB
  rw [e]
  rcases h with ⟨h0, _⟩ | ⟨b, off, cap, e', h1, h2, hc⟩
  · exact .inl ⟨by omega, _, _, by rw [show k = 0 by omega]⟩
  · simp only [Value.slice.injEq] at e'
    obtain ⟨rfl, _, rfl⟩ := e'
    refine .inr ⟨b, off, _, rfl, by omega, h2, fun j x hx => hc j x ?_⟩
    rw [bC_take, List.getElem?_take] at hx
    split at hx
    · exact hx
    · cases hx
/-- a row of bytes of one's own, of elements of a type t -/
def OwB (W : World) (B : Nat) (t : TypeId) (v : Value) (l : List Int) : Prop := W.ownsRow B t 1 v l.length (bC l)
theorem OwB.row {W : World} {B : Nat} {t : TypeId} {v : Value} {l : List Int} (h : OwB W B t v l) : RB W v l := RC.of_owns h
theorem OwB.form {W : World} {B : Nat} {t : TypeId} {v : Value} {l : List Int} (h : OwB W B t v l) : ∃ a c, v = .slice a l.length c := owns_form h
theorem OwB.wk {W : World} {B B' : Nat} {t : TypeId} {v : Value} {l : List Int} (h : OwB W B t v l) (hb : B' ≤ B) : OwB W B' t v l := owns_wk h hb
theorem OwB.kp {N : Nat → Prop} {W W' : World} {B : Nat} {t : TypeId} {v : Value} {l : List Int} (h : OwB W B t v l) (k : Kp N W W') (hn : ∀ i, v.ownBlock = some i → ¬ N i) : OwB W' B t v l := owns_kp h k hn
theorem OwB.below {W W' : World} {B : Nat} {t : TypeId} {v : Value} {l : List Int} (h : OwB W B t v l) (hb : Below W.heap.size W W') : OwB W' B t v l := h.kp (N := fun _ => False) (Kp.of_below hb) (fun _ _ e => e)
theorem OwB.lt {W : World} {B : Nat} {t : TypeId} {v : Value} {l : List Int} (h : OwB W B t v l) : ∀ k, v.ownBlock = some k → B ≤ k ∧ k < W.heap.size := World.ownsRow.lt h
theorem OwB.nil (W : World) (B : Nat) (t : TypeId) : OwB W B t (.slice none 0 0) [] := World.ownsRow_nil W B t 1
/-- its block is of its type -/
theorem OwB.ty {W : World} {B : Nat} {t : TypeId} {v : Value} {l : List Int} (h : OwB W B t v l) : ∀ k, v.ownBlock = some k → ∃ cur, Bx W k t cur := by
  intro k hk
  rcases h.2 with ⟨rfl, _⟩ | ⟨g, cap, cur, rfl, _, hg, _⟩
  · cases hk
  · cases hk; exact ⟨cur, hg⟩
theorem OwB.box {W : World} {B g : Nat} {t : TypeId} {l : List Int} {cur : Array Value} (h : Bx W g t cur) (hb : B ≤ g) (hl : l.length ≤ 1000000000) (hs : cur.size = l.length) (hc : cur.toList = bC l) : OwB W B t (.slice (some ⟨g, 0, none⟩) l.length l.length) l := by
  refine ⟨by rw [bC_len, Nat.mul_one], .inr ⟨g, l.length, cur, rfl, hb, h, Nat.le_refl _, by unfold maxLen; omega, by rw [Nat.mul_one]; exact hs, ?_⟩⟩
  rw [Nat.mul_one, List.take_of_length_le (by rw [hc, bC_len]; exact Nat.le_refl _), hc]
theorem infoB : (Try.prog.info? 5).map (fun i => (i.zero, i.size, i.bytes)) = some (some (.int .u8 0), 1, 1) := by kernel_rfl
theorem mkB (N : Nat) (hN : N ≤ 1000000000) : ∃ Z : Array Value, Z.size = N ∧ ∀ w : World, (Instr.makeSlice 30 (.int .i64 (N : Nat)) (.int .i64 (N : Nat))).run Try.prog w = .ok (.slice (some ⟨w.heap.size, 0, none⟩) N N) (w.alloc (.cells Z 5)) := by
  obtain ⟨i, hi, hz, hs, hb⟩ := info_parts infoB
  refine ⟨madeCells (Value.int .u8 0).cells (N * 1), by rw [size_madeCells]; omega, fun w => ?_⟩
  have := run_make (P := Try.prog) w 30 5 i _ Try.underlying30 hi hz .i64 .i64 (N : Int) (N : Int) (by omega) (Int.le_refl _) (by rw [hb]; omega) (by omega)
  rw [hs, Int.toNat_natCast] at this
  exact this
/-- the first i cells of a row that is filled -/
structure Fl (w W : World) (g : Nat) (t : TypeId) (l : List Int) (i : Nat) : Prop where
  bx : ∃ cur : Array Value, Bx W g t cur ∧ cur.size = l.length ∧ cur.toList.take i = bC (l.take i)
  bel : Below w.heap.size w W
theorem Fl.new (w : World) {Z : Array Value} {l : List Int} (hz : Z.size = l.length) (t : TypeId) : Fl w (w.alloc (.cells Z t)) w.heap.size t l 0 := ⟨⟨Z, Bx.new _ _ _, hz, by simp [bC]⟩, ballc (Below.refl _ _) _⟩
theorem Fl.set {w W : World} {g : Nat} {t : TypeId} {l : List Int} {i : Nat} (h : Fl w W g t l i) (hg : w.heap.size ≤ g) {x : Int} (hx : l[i]? = some x) : Fl w (W.setCell ⟨g, i, none⟩ (.int .u8 x)) g t l (i + 1) := by
  obtain ⟨⟨cur, hb, hs, ht⟩, bel⟩ := h
  have hi := (List.getElem?_eq_some_iff.1 hx).1
  refine ⟨⟨_, hb.set i _, by simp [hs], ?_⟩, bset bel _ hg _⟩
  rw [Array.toList_setIfInBounds, List.take_add_one, List.take_set_of_le (by omega), ht, List.take_add_one, hx]
  rw [List.getElem?_set_self (by simp [hs]; omega)]
  simp [bC]
theorem Fl.cell {w W : World} {g : Nat} {t : TypeId} {l : List Int} {i : Nat} (h : Fl w W g t l i) (hi : i < l.length) : ∃ v, W.cell? ⟨g, i, none⟩ = some v := by
  obtain ⟨⟨cur, hb, hs, _⟩, _⟩ := h
  exact ⟨cur[i]'(by omega), hb.cell i _ (Array.getElem?_eq_getElem _)⟩
theorem Fl.fz {w W : World} {g : Nat} {t : TypeId} {l : List Int} {i : Nat} (h : Fl w W g t l i) (j : Nat) : W.frozen? ⟨g, j, none⟩ = false := by
  obtain ⟨⟨cur, hb, _⟩, _⟩ := h
  exact hb.frozen j
theorem Fl.own {w W : World} {g : Nat} {t : TypeId} {l : List Int} (h : Fl w W g t l l.length) (hg : w.heap.size ≤ g) (hl : l.length ≤ 1000000000) : OwB W w.heap.size t (.slice (some ⟨g, 0, none⟩) l.length l.length) l := by
  obtain ⟨⟨cur, hb, hs, ht⟩, _⟩ := h
  refine OwB.box hb hg hl hs ?_
  rw [List.take_of_length_le (by simp [hs]), List.take_of_length_le (Nat.le_refl _)] at ht
  exact ht

end Go.Proofs.Yteomalmflebkhaa
