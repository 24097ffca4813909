/-
  The law GlyphOwn's three lists: each in memory of its own, whatever is written and appended.
-/
import Derived.Test.YtnejgbjidonpiabRun
import Derived.OneCell
import Derived.ArgAppend
set_option linter.unusedSimpArgs false
set_option linter.unusedVariables false
namespace Go.Proofs.Ytnejgbjidonpiab
open Go.RowKit Go.Lib Go.Shelf

theorem info32o : (Try.prog.info? 21).map (fun i => (i.zero, i.size, i.bytes)) = some (some (.int .i32 0), 1, 4) := by kernel_rfl

/-- rows of two types are two rows -/
theorem rows_two {W : World} {B B' e e' m m' n n' : Nat} {v v' : Value} {xs xs' : List Value} (h : W.ownsRow B e m v n xs) (h' : W.ownsRow B' e' m' v' n' xs') (hne : e ≠ e') : v.ownBlock = none ∨ v.ownBlock ≠ v'.ownBlock := by
  rcases h.2 with ⟨rfl, _⟩ | ⟨g, cap, cur, rfl, _, hgb, _⟩
  · exact .inl rfl
  · refine .inr fun e1 => ?_
    rcases h'.2 with ⟨rfl, _⟩ | ⟨g', cap', cur', rfl, _, hgb', _⟩
    · simp [Value.ownBlock] at e1
    · obtain rfl : g = g' := by simpa [Value.ownBlock] using e1
      rw [hgb] at hgb'
      simp at hgb'
      exact hne hgb'.2

theorem row_prefix {w : World} {base e g cap n m : Nat} {zs : List Value} (h : w.ownsRow base e 1 (.slice (some ⟨g, 0, none⟩) m cap) m zs) (hn : n ≤ m) : w.ownsRow base e 1 (.slice (some ⟨g, 0, none⟩) n cap) n (zs.take n) := by
  obtain ⟨h1, h2⟩ := h
  rcases h2 with ⟨h0, _⟩ | ⟨g', cap', cur, hv, hg, hh, hc, hcap, hsz, htake⟩
  · cases h0
  · cases hv
    refine ⟨by simp at h1 ⊢; omega, .inr ⟨g, cap, cur, rfl, hg, hh, by omega, hcap, hsz, ?_⟩⟩
    rw [← htake, List.take_take, Nat.mul_one, Nat.mul_one, Nat.min_eq_left hn]

abbrev sl (g c : Nat → Nat) (n : Nat) (j : Nat) : Value := .slice (some ⟨g j, 0, none⟩) n (c j)
def upd {α : Type} (f : Nat → α) (i : Nat) (x : α) : Nat → α := fun j => if j = i then x else f j

theorem upd_same {α : Type} (f : Nat → α) (i : Nat) (x : α) : upd f i x i = x := by simp [upd]
theorem upd_ne {α : Type} (f : Nat → α) {i j : Nat} (x : α) (h : j ≠ i) : upd f i x j = f j := by simp [upd, h]
theorem list3_set {α : Type} (f : Nat → α) (x : α) {i : Nat} (h : i < 3) : [f 0, f 1, f 2].set i x = [upd f i x 0, upd f i x 1, upd f i x 2] := by
  obtain rfl | rfl | rfl : i = 0 ∨ i = 1 ∨ i = 2 := by omega
  all_goals simp [upd]
theorem list3_get {α : Type} (f : Nat → α) {i : Nat} (h : i < 3) : [f 0, f 1, f 2][i]? = some (f i) := by
  obtain rfl | rfl | rfl : i = 0 ∨ i = 1 ∨ i = 2 := by omega
  all_goals rfl

/-- while the three lists are made -/
structure T1 (w0 : World) (n i : Nat) (g c : Nat → Nat) (vs : Nat → Value) (xs : List Value) (W : World) : Prop where
  arr : W.ownsRow w0.heap.size 33 1 (.slice (some ⟨w0.heap.size, 0, none⟩) 3 3) 3 [vs 0, vs 1, vs 2]
  form : ∀ j, j < i → vs j = sl g c n j
  own : ∀ j, j < i → W.ownsRow w0.heap.size 21 1 (sl g c n j) n xs
  apart : ∀ j k, j < i → k < i → j ≠ k → g j ≠ g k
  bel : Below w0.heap.size w0 W

theorem own_below {W W' : World} {B e n : Nat} {v : Value} {xs : List Value} (h : W.ownsRow B e 1 v n xs) (hb : Below W.heap.size W W') : W'.ownsRow B e 1 v n xs :=
  ⟨h.1, h.2.elim .inl (fun ⟨g, cap, cur, e1, e2, e3, rest⟩ => .inr ⟨g, cap, cur, e1, e2, (hb.block g (Array.getElem?_eq_some_iff.1 e3).1).trans e3, rest⟩)⟩

theorem own_base {W : World} {B B' e n : Nat} {v : Value} {xs : List Value} (h : W.ownsRow B e 1 v n xs) (hb : B' ≤ B) : W.ownsRow B' e 1 v n xs :=
  ⟨h.1, h.2.elim .inl (fun ⟨g, cap, cur, e1, e2, rest⟩ => .inr ⟨g, cap, cur, e1, Nat.le_trans hb e2, rest⟩)⟩

theorem T1.start (w0 : World) (n : Nat) (xs : List Value) : T1 w0 n 0 (fun _ => 0) (fun _ => 0) (fun _ => .slice none 0 0) xs (w0.alloc (.cells #[.slice none 0 0, .slice none 0 0, .slice none 0 0] 33)) :=
  ⟨World.ownsRow_lit w0 #[.slice none 0 0, .slice none 0 0, .slice none 0 0] 3 (Nat.le_refl _) (by decide) rfl, fun j h => by omega, fun j h => by omega, fun j k h => by omega, (Below.refl _ w0).alloc (Nat.le_refl _) _⟩

theorem own_lt {W : World} {B e n c g : Nat} {xs : List Value} (h : W.ownsRow B e 1 (.slice (some ⟨g, 0, none⟩) n c) n xs) : B ≤ g ∧ g < W.heap.size := h.lt g rfl

theorem T1.step {w0 : World} {n i : Nat} {g c : Nat → Nat} {vs : Nat → Value} {xs : List Value} {W W' : World} {cap : Nat} (h : T1 w0 n i g c vs xs W) (hi : i < 3) (hB : Below W.heap.size W W')
    (ho : W'.ownsRow W.heap.size 21 1 (.slice (some ⟨W.heap.size, 0, none⟩) n cap) n xs) :
    T1 w0 n (i + 1) (upd g i W.heap.size) (upd c i cap) (upd vs i (.slice (some ⟨W.heap.size, 0, none⟩) n cap)) xs (W'.setCell ⟨w0.heap.size, i, none⟩ (.slice (some ⟨W.heap.size, 0, none⟩) n cap)) := by
  have hsz := h.bel.size
  have ha := own_below h.arr hB
  obtain ⟨s1, s2⟩ := ha.stored i (.slice (some ⟨W.heap.size, 0, none⟩) n cap)
  rw [list3_set vs _ hi] at s1
  refine ⟨s1, fun j hj => ?_, fun j hj => ?_, fun j k hj hk hne => ?_, (h.bel.trans (hB.mono hsz)).setCell (p := ⟨w0.heap.size, i, none⟩) (Nat.le_refl _) _⟩
  · by_cases e : j = i
    · subst e; simp [sl, upd_same]
    · rw [upd_ne _ _ e, h.form j (by omega)]; simp [sl, upd_ne _ _ e]
  · by_cases e : j = i
    · subst e
      simp only [sl, upd_same]
      exact (own_base ho hsz).kept s2 ((rows_two (own_base ho hsz) ha (by decide)).imp id fun h e => h e)
    · simp only [sl, upd_ne _ _ e]
      exact (own_below (h.own j (by omega)) hB).kept s2 ((rows_two (own_below (h.own j (by omega)) hB) ha (by decide)).imp id fun h e => h e)
  · have lt : ∀ j, j < i → g j < W.heap.size := fun j hj => (own_lt (h.own j hj)).2
    by_cases e1 : j = i
    · subst e1
      rw [upd_same, upd_ne _ _ (Ne.symm hne)]
      have := lt k (by omega)
      omega
    · by_cases e2 : k = i
      · subst e2
        rw [upd_same, upd_ne _ _ hne]
        have := lt j (by omega)
        omega
      · rw [upd_ne _ _ e1, upd_ne _ _ e2]
        exact h.apart j k (by omega) (by omega) hne

/-- the three lists -/
structure T3 (w0 : World) (n : Nat) (g c : Nat → Nat) (xs : Nat → List Value) (W : World) : Prop where
  arr : W.ownsRow w0.heap.size 33 1 (.slice (some ⟨w0.heap.size, 0, none⟩) 3 3) 3 [sl g c n 0, sl g c n 1, sl g c n 2]
  own : ∀ j, j < 3 → W.ownsRow w0.heap.size 21 1 (sl g c n j) n (xs j)
  apart : ∀ j k, j < 3 → k < 3 → j ≠ k → g j ≠ g k
  bel : Below w0.heap.size w0 W

theorem T1.done {w0 : World} {n : Nat} {g c : Nat → Nat} {vs : Nat → Value} {xs : List Value} {W : World} (h : T1 w0 n 3 g c vs xs W) : T3 w0 n g c (fun _ => xs) W :=
  ⟨by have := h.arr; rwa [h.form 0 (by omega), h.form 1 (by omega), h.form 2 (by omega)] at this, h.own, h.apart, h.bel⟩

theorem T3.elem {w0 : World} {n : Nat} {g c : Nat → Nat} {xs : Nat → List Value} {W : World} (h : T3 w0 n g c xs W) {i : Nat} (hi : i < 3) : W.cell? ⟨w0.heap.size, i, none⟩ = some (.slice (some ⟨g i, 0, none⟩) n (c i)) := by
  rw [h.arr.cellAt i (by omega)]
  exact list3_get (sl g c n) hi
theorem T3.cell {w0 : World} {n : Nat} {g c : Nat → Nat} {xs : Nat → List Value} {W : World} (h : T3 w0 n g c xs W) {i k : Nat} (hi : i < 3) (hk : k < n) : W.cell? ⟨g i, k, none⟩ = (xs i)[k]? := (h.own i hi).cellAt k (by omega)
theorem T3.frozen {w0 : World} {n : Nat} {g c : Nat → Nat} {xs : Nat → List Value} {W : World} (h : T3 w0 n g c xs W) {i k : Nat} (hi : i < 3) : W.frozen? ⟨g i, k, none⟩ = false := (h.own i hi).frozenAt k

theorem T3.row_ne {w0 : World} {n : Nat} {g c : Nat → Nat} {xs : Nat → List Value} {W : World} (h : T3 w0 n g c xs W) {i : Nat} (hi : i < 3) : w0.heap.size ≠ g i := fun e => by
  rcases rows_two h.arr (h.own i hi) (by decide) with h1 | h1
  · simp [Value.ownBlock] at h1
  · exact h1 (by simp [Value.ownBlock, sl, e])

theorem T3.grown {w0 : World} {n : Nat} {g c : Nat → Nat} {xs : Nat → List Value} {W W' : World} {row : Option Nat} (h : T3 w0 n g c xs W) (hg : W.grownBy W' row) (h1 : ∀ j, j < 3 → some (g j) ≠ row) (h2 : some w0.heap.size ≠ row) (h3 : ∀ k, row = some k → w0.heap.size ≤ k) : T3 w0 n g c xs W' :=
  ⟨h.arr.kept hg (.inr h2), fun j hj => (h.own j hj).kept hg (.inr (h1 j hj)), h.apart, h.bel.grown hg h.bel.size h3⟩

theorem T3.below {w0 : World} {n : Nat} {g c : Nat → Nat} {xs : Nat → List Value} {W W' : World} (h : T3 w0 n g c xs W) (hb : Below W.heap.size W W') : T3 w0 n g c xs W' :=
  ⟨own_below h.arr hb, fun j hj => own_below (h.own j hj) hb, h.apart, h.bel.trans (hb.mono h.bel.size)⟩

theorem T3.store {w0 : World} {n : Nat} {g c : Nat → Nat} {xs : Nat → List Value} {W : World} (h : T3 w0 n g c xs W) {i : Nat} (hi : i < 3) (k : Nat) (u : Value) : T3 w0 n g c (upd xs i ((xs i).set k u)) (W.setCell ⟨g i, k, none⟩ u) := by
  obtain ⟨s1, s2⟩ := (h.own i hi).stored k u
  refine ⟨h.arr.kept s2 (.inr (fun e => h.row_ne hi (by simpa [Value.ownBlock] using e))), fun j hj => ?_, h.apart, h.bel.setCell (p := ⟨g i, k, none⟩) (own_lt (h.own i hi)).1 u⟩
  by_cases e : j = i
  · subst e; rw [upd_same]; exact s1
  · rw [upd_ne _ _ e]
    exact (h.own j hj).kept s2 (.inr (fun e2 => h.apart j i hj hi e (by simpa [Value.ownBlock, sl] using e2)))

/-- a list gone on from: it lies with the one that it came from, or alone -/
structure GV (w0 : World) (n i k : Nat) (g c : Nat → Nat) (xs : Nat → List Value) (W : World) (h cap : Nat) (ys : List Value) : Prop where
  own : W.ownsRow w0.heap.size 21 1 (.slice (some ⟨h, 0, none⟩) (n + k) cap) (n + k) ys
  place : (h = g i ∧ cap = c i ∧ ys.take n = xs i) ∨ ∀ j, j < 3 → h ≠ g j

theorem GV.start {w0 : World} {n : Nat} {g c : Nat → Nat} {xs : Nat → List Value} {W : World} (h : T3 w0 n g c xs W) {i : Nat} (hi : i < 3) : GV w0 n i 0 g c xs W (g i) (c i) (xs i) :=
  ⟨h.own i hi, .inl ⟨rfl, rfl, List.take_of_length_le (by have := (h.own i hi).1; omega)⟩⟩

theorem GV.fits {w0 : World} {n i k : Nat} {g c : Nat → Nat} {xs : Nat → List Value} {W W' : World} {h cap : Nat} {ys : List Value} {x : Value} (t : T3 w0 n g c xs W) (hi : i < 3) (v : GV w0 n i k g c xs W h cap ys) {o : Obj}
    (ho : W'.ownsRow w0.heap.size 21 1 (.slice (some ⟨h, 0, none⟩) (n + k + 1) cap) (n + k + 1) (ys ++ [x])) (hg : (W.alloc o).grownBy W' (some h)) :
    T3 w0 n g c xs W' ∧ GV w0 n i (k + 1) g c xs W' h cap (ys ++ [x]) := by
  have t' : T3 w0 n g c xs (W.alloc o) := t.grown (World.grownBy_alloc W o none) (fun _ _ => by simp) (by simp) (fun k e => by cases e)
  have hyl : n ≤ ys.length := by have := v.own.1; omega
  have hBh := own_lt v.own
  have hne : w0.heap.size ≠ h := fun e => by
    rcases rows_two t.arr v.own (by decide) with h1 | h1
    · simp [Value.ownBlock] at h1
    · exact h1 (by simp [Value.ownBlock, e])
  rcases v.place with ⟨rfl, rfl, hp⟩ | hp
  · refine ⟨⟨t'.arr.kept hg (.inr (fun e => hne (by simpa [Value.ownBlock] using e))), fun j hj => ?_, t.apart, t'.bel.grown hg t'.bel.size (fun k e => by cases e; exact hBh.1)⟩, ⟨ho, .inl ⟨rfl, rfl, by rw [List.take_append_of_le_length hyl]; exact hp⟩⟩⟩
    by_cases e : j = i
    · subst e
      have := row_prefix ho (n := n) (by omega)
      rw [List.take_append_of_le_length hyl, hp] at this
      exact this
    · exact (t'.own j hj).kept hg (.inr (fun e2 => t.apart j i hj hi e (by simpa [Value.ownBlock, sl] using e2)))
  · exact ⟨t'.grown hg (fun j hj e => hp j hj (by cases e; rfl)) (fun e => hne (by cases e; rfl)) (fun k e => by cases e; exact hBh.1), ⟨ho, .inr hp⟩⟩

theorem GV.grows {w0 : World} {n i k : Nat} {g c : Nat → Nat} {xs : Nat → List Value} {W W' : World} {h cap : Nat} {ys : List Value} {x : Value} {h' cap' : Nat} (t : T3 w0 n g c xs W) {o : Obj}
    (ho : W'.ownsRow (W.heap.size + 1) 21 1 (.slice (some ⟨h', 0, none⟩) (n + k + 1) cap') (n + k + 1) (ys ++ [x])) (hg : (W.alloc o).grownBy W' none) :
    T3 w0 n g c xs W' ∧ GV w0 n i (k + 1) g c xs W' h' cap' (ys ++ [x]) := by
  have t' : T3 w0 n g c xs (W.alloc o) := t.grown (World.grownBy_alloc W o none) (fun _ _ => by simp) (by simp) (fun k e => by cases e)
  have hB := own_lt ho
  refine ⟨t'.grown hg (fun _ _ => by simp) (by simp) (fun k e => by cases e), ⟨own_base ho (Nat.le_succ_of_le t.bel.size), .inr fun j hj e => ?_⟩⟩
  have := (own_lt (t.own j hj)).2
  omega

end Go.Proofs.Ytnejgbjidonpiab
