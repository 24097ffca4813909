/-
  The law DiffOwn's rows: a family of rows of Edits, each with a colour (its number by six): rows of two colours lie in two blocks.
-/
import Derived.Test.YtlbgfcbhpmhhpabZE7
import Derived.OneCell
import Derived.ArgAppend
import Derived.OwnWalk
set_option linter.unusedSimpArgs false
set_option linter.unusedVariables false
namespace Go.Proofs.Ytlbgfcbhpmhhpab
open Go.RowKit Go.Lib

namespace O

def upd {α : Type} (f : Nat → α) (i : Nat) (x : α) : Nat → α := fun j => if j = i then x else f j
theorem upd_same {α : Type} (f : Nat → α) (i : Nat) (x : α) : upd f i x i = x := by simp [upd]
theorem upd_ne {α : Type} (f : Nat → α) {i j : Nat} (x : α) (h : j ≠ i) : upd f i x j = f j := by simp [upd, h]

/-- two rows in two blocks -/
def Apart (v u : Value) : Prop := v.ownBlock = none ∨ v.ownBlock ≠ u.ownBlock

theorem Apart.symm {v u : Value} (h : Apart v u) : Apart u v := by
  rcases h with h | h
  · by_cases e : u.ownBlock = none
    · exact .inl e
    · exact .inr (fun e2 => e (e2.trans h))
  · exact .inr (Ne.symm h)

theorem rows_two {W : World} {B B' e e' m m' n n' : Nat} {v v' : Value} {xs xs' : List Value} (h : W.ownsRow B e m v n xs) (h' : W.ownsRow B' e' m' v' n' xs') (hne : e ≠ e') : v.ownBlock = none ∨ v.ownBlock ≠ v'.ownBlock := by
  rcases h.2 with ⟨rfl, _⟩ | ⟨g, cap, cur, rfl, _, hgb, _⟩
  · exact .inl rfl
  · refine .inr fun e1 => ?_
    rcases h'.2 with ⟨rfl, _⟩ | ⟨g', cap', cur', rfl, _, hgb', _⟩
    · simp [Value.ownBlock] at e1
    · obtain rfl : g = g' := by simpa [Value.ownBlock] using e1
      rw [hgb] at hgb'
      simp at hgb'
      exact hne hgb'.2

theorem own_below {W W' : World} {B e m n : Nat} {v : Value} {xs : List Value} (h : W.ownsRow B e m v n xs) (hb : Below W.heap.size W W') : W'.ownsRow B e m v n xs :=
  ⟨h.1, h.2.elim .inl (fun ⟨g, cap, cur, e1, e2, e3, rest⟩ => .inr ⟨g, cap, cur, e1, e2, (hb.block g (Array.getElem?_eq_some_iff.1 e3).1).trans e3, rest⟩)⟩

theorem own_base {W : World} {B B' e m n : Nat} {v : Value} {xs : List Value} (h : W.ownsRow B e m v n xs) (hb : B' ≤ B) : W.ownsRow B' e m v n xs :=
  ⟨h.1, h.2.elim .inl (fun ⟨g, cap, cur, e1, e2, rest⟩ => .inr ⟨g, cap, cur, e1, Nat.le_trans hb e2, rest⟩)⟩

theorem own_form {W : World} {B e m n : Nat} {v : Value} {xs : List Value} (h : W.ownsRow B e m v n xs) : ∃ a c, v = .slice a n c := by
  rcases h.2 with ⟨rfl, rfl⟩ | ⟨g, cap, cur, rfl, _⟩
  · exact ⟨_, _, rfl⟩
  · exact ⟨_, _, rfl⟩
theorem own_some {W : World} {B e m n : Nat} {v : Value} {xs : List Value} (h : W.ownsRow B e m v n xs) (hn : 0 < n) : ∃ g c, v = .slice (some ⟨g, 0, none⟩) n c := by
  rcases h.2 with ⟨rfl, rfl⟩ | ⟨g, cap, cur, rfl, _⟩
  · omega
  · exact ⟨_, _, rfl⟩

/-- of two rows in one block the shorter one is a beginning, also when the longer one is gone on from in its place -/
theorem own_prefix {W W' : World} {B e s g n m cap cap' : Nat} {xs zs : List Value} {news : List Value} (h : W.ownsRow B e s (.slice (some ⟨g, 0, none⟩) n cap) n xs) (h' : W.ownsRow B e s (.slice (some ⟨g, 0, none⟩) m cap') m zs) (hs : 0 < s)
    (ho : W'.ownsRow B e s (.slice (some ⟨g, 0, none⟩) (m + 1) cap') (m + 1) (zs ++ news)) (hn : n ≤ m) : W'.ownsRow B e s (.slice (some ⟨g, 0, none⟩) n cap) n xs := by
  rcases h.2 with ⟨h0, _⟩ | ⟨g1, c1, cur1, e1, hg1, hb1, hc1, hm1, hs1, ht1⟩
  · cases h0
  rcases h'.2 with ⟨h0, _⟩ | ⟨g2, c2, cur2, e2, hg2, hb2, hc2, hm2, hs2, ht2⟩
  · cases h0
  rcases ho.2 with ⟨h0, _⟩ | ⟨g3, c3, cur3, e3, hg3, hb3, hc3, hm3, hs3, ht3⟩
  · cases h0
  simp only [Value.slice.injEq, Option.some.injEq, Addr.mk.injEq, and_true, true_and] at e1 e2 e3
  obtain ⟨rfl, rfl⟩ := e1
  obtain ⟨rfl, rfl⟩ := e2
  obtain ⟨rfl, rfl⟩ := e3
  rw [hb1] at hb2
  simp at hb2
  subst hb2
  have hcc : cap = cap' := Nat.eq_of_mul_eq_mul_right hs (hs1.symm.trans hs2)
  subst hcc
  refine ⟨h.1, .inr ⟨_, _, cur3, rfl, hg1, hb3, hc1, hm1, hs3, ?_⟩⟩
  have hle : n * s ≤ m * s := Nat.mul_le_mul_right s hn
  have hle2 : n * s ≤ (m + 1) * s := Nat.mul_le_mul_right s (by omega)
  have hzl : n * s ≤ zs.length := by rw [h'.1]; exact hle
  have a1 : xs = zs.take (n * s) := by rw [← ht1, ← ht2, List.take_take, Nat.min_eq_left hle]
  have a2 : cur3.toList.take (n * s) = (zs ++ news).take (n * s) := by rw [← ht3, List.take_take, Nat.min_eq_left hle2]
  rw [a2, a1, List.take_append_of_le_length hzl]

structure Fm (W1 : World) (m : Nat) (v : Nat → Value) (n : Nat → Nat) (xs : Nat → List Value) (W : World) : Prop where
  own : ∀ j, j < m → W.ownsRow W1.heap.size 31 3 (v j) (n j) (xs j)
  apart : ∀ j k, j < m → k < m → j % 6 ≠ k % 6 → Apart (v j) (v k)
  bel : Below W1.heap.size W1 W

theorem Fm.start {W1 : World} {v : Nat → Value} {n : Nat → Nat} {xs : Nat → List Value} : Fm W1 0 v n xs W1 := ⟨fun j h => by omega, fun j k h => by omega, Below.refl _ _⟩

theorem Fm.below {W1 W W' : World} {m : Nat} {v : Nat → Value} {n : Nat → Nat} {xs : Nat → List Value} (h : Fm W1 m v n xs W) (hb : Below W.heap.size W W') : Fm W1 m v n xs W' :=
  ⟨fun j hj => own_below (h.own j hj) hb, h.apart, h.bel.trans (hb.mono h.bel.size)⟩

/-- a row of another type grows -/
theorem Fm.other {W1 W W' : World} {m : Nat} {v : Nat → Value} {n : Nat → Nat} {xs : Nat → List Value} {B e s q : Nat} {u : Value} {us : List Value} (h : Fm W1 m v n xs W) (ho : W.ownsRow B e s u q us) (hB : W1.heap.size ≤ B) (hne : 31 ≠ e) (hg : W.grownBy W' u.ownBlock) : Fm W1 m v n xs W' :=
  ⟨fun j hj => (h.own j hj).kept hg (rows_two (h.own j hj) ho hne), h.apart, h.bel.grown hg h.bel.size (fun k e => Nat.le_trans hB (ho.lt k e).1)⟩

/-- a new row -/
theorem Fm.add {W1 W W' : World} {m q : Nat} {v : Nat → Value} {n : Nat → Nat} {xs : Nat → List Value} {u : Value} {us : List Value} (h : Fm W1 m v n xs W) (hb : Below W.heap.size W W') (ho : W'.ownsRow W.heap.size 31 3 u q us) :
    Fm W1 (m + 1) (upd v m u) (upd n m q) (upd xs m us) W' := by
  have h' := h.below hb
  have far : ∀ j, j < m → Apart (v j) u := fun j hj => by
    by_cases e : (v j).ownBlock = none
    · exact .inl e
    · refine .inr fun e2 => ?_
      obtain ⟨g, hg⟩ := Option.ne_none_iff_exists'.1 e
      have l1 := ((h.own j hj).lt g hg).2
      have l2 := (ho.lt g (e2 ▸ hg)).1
      omega
  refine ⟨fun j hj => ?_, fun j k hj hk hne => ?_, h'.bel⟩
  · by_cases e : j = m
    · subst e; simp only [upd_same]; exact own_base ho h.bel.size
    · simp only [upd_ne _ _ e]; exact h'.own j (by omega)
  · by_cases e1 : j = m
    · by_cases e2 : k = m
      · omega
      · subst e1; rw [upd_same, upd_ne _ _ e2]; exact (far k (by omega)).symm
    · by_cases e2 : k = m
      · subst e2; rw [upd_same, upd_ne _ _ e1]; exact far j (by omega)
      · rw [upd_ne _ _ e1, upd_ne _ _ e2]; exact h.apart j k (by omega) (by omega) hne

/-- the row that is gone on from stands as a row of its own number and the same colour -/
theorem Fm.again {W1 W : World} {i : Nat} {v : Nat → Value} {n : Nat → Nat} {xs : Nat → List Value} (h : Fm W1 (6 + i) v n xs W) (hi : i < 6) : Fm W1 (6 + i + 1) (upd v (6 + i) (v i)) (upd n (6 + i) (n i)) (upd xs (6 + i) (xs i)) W := by
  refine ⟨fun j hj => ?_, fun j k hj hk hne => ?_, h.bel⟩
  · by_cases e : j = 6 + i
    · subst e; simp only [upd_same]; exact h.own i (by omega)
    · simp only [upd_ne _ _ e]; exact h.own j (by omega)
  · by_cases e1 : j = 6 + i
    · by_cases e2 : k = 6 + i
      · omega
      · subst e1; rw [upd_same, upd_ne _ _ e2]; exact h.apart i k (by omega) (by omega) (by omega)
    · by_cases e2 : k = 6 + i
      · subst e2; rw [upd_same, upd_ne _ _ e1]; exact h.apart j i (by omega) (by omega) (by omega)
      · rw [upd_ne _ _ e1, upd_ne _ _ e2]; exact h.apart j k (by omega) (by omega) hne

/-- one of six rows is written into -/
theorem Fm.store {W1 W W' : World} {i : Nat} {v : Nat → Value} {n : Nat → Nat} {xs : Nat → List Value} {us : List Value} (h : Fm W1 6 v n xs W) (hi : i < 6) (ho : W'.ownsRow W1.heap.size 31 3 (v i) (n i) us) (hg : W.grownBy W' (v i).ownBlock) : Fm W1 6 v n (upd xs i us) W' := by
  refine ⟨fun j hj => ?_, h.apart, h.bel.grown hg h.bel.size (fun k e => ((h.own i hi).lt k e).1)⟩
  by_cases e : j = i
  · subst e; rw [upd_same]; exact ho
  · rw [upd_ne _ _ e]; exact (h.own j hj).kept hg (h.apart j i hj hi (by omega))

theorem Fm.alloc {W1 W : World} {m : Nat} {v : Nat → Value} {n : Nat → Nat} {xs : Nat → List Value} (h : Fm W1 m v n xs W) (o : Obj) : Fm W1 m v n xs (W.alloc o) :=
  ⟨fun j hj => (h.own j hj).alloc o, h.apart, h.bel.alloc h.bel.size o⟩

/-- the last row goes on in its place -/
theorem Fm.fits {W1 W W' : World} {i g cap : Nat} {v : Nat → Value} {n : Nat → Nat} {xs : Nat → List Value} {news : List Value} (h : Fm W1 (6 + i + 1) v n xs W) (hi : i < 6) (hn : n i ≤ n (6 + i)) (hv : v (6 + i) = .slice (some ⟨g, 0, none⟩) (n (6 + i)) cap)
    (ho : W'.ownsRow W1.heap.size 31 3 (.slice (some ⟨g, 0, none⟩) (n (6 + i) + 1) cap) (n (6 + i) + 1) (xs (6 + i) ++ news)) (hg : W.grownBy W' (some g)) :
    Fm W1 (6 + i + 1) (upd v (6 + i) (.slice (some ⟨g, 0, none⟩) (n (6 + i) + 1) cap)) (upd n (6 + i) (n (6 + i) + 1)) (upd xs (6 + i) (xs (6 + i) ++ news)) W' := by
  have hown := h.own (6 + i) (by omega)
  rw [hv] at hown
  have hob : (v (6 + i)).ownBlock = some g := by rw [hv]; rfl
  refine ⟨fun j hj => ?_, fun j k hj hk hne => ?_, h.bel.grown hg h.bel.size (fun k e => by cases e; exact (hown.lt g rfl).1)⟩
  · by_cases e : j = 6 + i
    · subst e; simp only [upd_same]; exact ho
    · simp only [upd_ne _ _ e]
      by_cases ec : j % 6 = i
      · have hji : j = i := by omega
        subst hji
        by_cases eb : (v j).ownBlock = some g
        · have hj0 := h.own j (by omega)
          rcases hj0.2 with ⟨e0, _⟩ | ⟨g1, c1, cur1, e1, _⟩
          · rw [e0] at eb; cases eb
          · rw [e1] at eb hj0
            obtain rfl : g1 = g := by simpa [Value.ownBlock] using eb
            have := own_prefix hj0 hown (by decide) ho hn
            rw [e1]
            exact this
        · exact (h.own j (by omega)).kept hg (.inr eb)
      · exact (h.own j (by omega)).kept hg (by have := h.apart j (6 + i) (by omega) (by omega) (by omega); rw [Apart, hob] at this; exact this)
  · have hub : (Value.slice (some ⟨g, 0, none⟩) (n (6 + i) + 1) cap).ownBlock = (v (6 + i)).ownBlock := by rw [hob]; rfl
    by_cases e1 : j = 6 + i
    · by_cases e2 : k = 6 + i
      · omega
      · subst e1; rw [upd_same, upd_ne _ _ e2, Apart, hub]; exact h.apart (6 + i) k (by omega) (by omega) hne
    · by_cases e2 : k = 6 + i
      · subst e2; rw [upd_same, upd_ne _ _ e1, Apart, hub]; exact h.apart j (6 + i) (by omega) (by omega) hne
      · rw [upd_ne _ _ e1, upd_ne _ _ e2]; exact h.apart j k (by omega) (by omega) hne

/-- the last row goes on elsewhere -/
theorem Fm.grows {W1 W W' : World} {i q : Nat} {v : Nat → Value} {n : Nat → Nat} {xs : Nat → List Value} {u : Value} {us : List Value} (h : Fm W1 (6 + i + 1) v n xs W) (ho : W'.ownsRow W.heap.size 31 3 u q us) (hg : W.grownBy W' none) :
    Fm W1 (6 + i + 1) (upd v (6 + i) u) (upd n (6 + i) q) (upd xs (6 + i) us) W' := by
  have hk : ∀ j, j < 6 + i + 1 → W'.ownsRow W1.heap.size 31 3 (v j) (n j) (xs j) := fun j hj => (h.own j hj).kept hg (by
    by_cases e : (v j).ownBlock = none
    · exact .inl e
    · exact .inr e)
  have far : ∀ j, j < 6 + i + 1 → Apart (v j) u := fun j hj => by
    by_cases e : (v j).ownBlock = none
    · exact .inl e
    · refine .inr fun e2 => ?_
      obtain ⟨g, hg⟩ := Option.ne_none_iff_exists'.1 e
      have l1 := ((h.own j hj).lt g hg).2
      have l2 := (ho.lt g (e2 ▸ hg)).1
      omega
  refine ⟨fun j hj => ?_, fun j k hj hk hne => ?_, h.bel.grown hg h.bel.size (fun k e => by cases e)⟩
  · by_cases e : j = 6 + i
    · subst e; simp only [upd_same]; exact own_base ho h.bel.size
    · simp only [upd_ne _ _ e]; exact hk j hj
  · by_cases e1 : j = 6 + i
    · by_cases e2 : k = 6 + i
      · omega
      · subst e1; rw [upd_same, upd_ne _ _ e2]; exact (far k (by omega)).symm
    · by_cases e2 : k = 6 + i
      · subst e2; rw [upd_same, upd_ne _ _ e1]; exact far j (by omega)
      · rw [upd_ne _ _ e1, upd_ne _ _ e2]; exact h.apart j k (by omega) (by omega) hne

theorem new_two (W : World) (c0 c1 : Value) (t : TypeId) : ∀ j u, ([c0, c1] : List Value)[j]? = some u → (W.alloc (.cells #[c0, c1] t)).cell? ((⟨W.heap.size, 0, none⟩ : Addr).add j) = some u := by
  intro j u h
  match j, h with
  | 0, h => simp at h; subst h; simp [go_sem, Addr.add]
  | 1, h => simp at h; subst h; simp [go_sem, Addr.add]
  | j + 2, h => simp at h

theorem range_two (v : Nat → Value) (i : Nat) (x y : Value) : (List.range (2 * (i + 1))).map (upd (upd v (2 * i) x) (2 * i + 1) y) = (List.range (2 * i)).map v ++ [x, y] := by
  rw [show 2 * (i + 1) = 2 * i + 1 + 1 by omega, List.range_succ, List.range_succ, List.map_append, List.map_append, List.append_assoc]
  congr 1
  · apply List.map_congr_left
    intro j hj
    have := List.mem_range.1 hj
    rw [upd_ne _ _ (by omega), upd_ne _ _ (by omega)]
  · simp [upd]

theorem grownBy_trans {W W' W'' : World} {r : Option Nat} (h : W.grownBy W' r) (k : W'.grownBy W'' r) : W.grownBy W'' r :=
  ⟨k.os.trans h.os, k.tape.trans h.tape, k.output.trans h.output, Nat.le_trans h.size k.size, fun q hq hne => (k.block q (Nat.lt_of_lt_of_le hq h.size) hne).trans (h.block q hq hne)⟩

/-- three cells are written -/
theorem Fm.store3 {W1 W : World} {i g c : Nat} {v : Nat → Value} {n : Nat → Nat} {xs : Nat → List Value} (h : Fm W1 6 v n xs W) (hi : i < 6) (hv : v i = .slice (some ⟨g, 0, none⟩) (n i) c) (j : Nat) (a b d : Value) :
    Fm W1 6 v n (upd xs i ((((xs i).set j a).set (j + 1) b).set (j + 2) d)) (((W.setCell ⟨g, j, none⟩ a).setCell ⟨g, j + 1, none⟩ b).setCell ⟨g, j + 2, none⟩ d) ∧
      W.grownBy (((W.setCell ⟨g, j, none⟩ a).setCell ⟨g, j + 1, none⟩ b).setCell ⟨g, j + 2, none⟩ d) (some g) := by
  have h0 := h.own i hi
  rw [hv] at h0
  obtain ⟨h1, g1⟩ := h0.stored j a
  obtain ⟨h2, g2⟩ := h1.stored (j + 1) b
  obtain ⟨h3, g3⟩ := h2.stored (j + 2) d
  have hg := grownBy_trans (grownBy_trans g1 g2) g3
  exact ⟨h.store hi (by rw [hv]; exact h3) (by rw [hv]; exact hg), hg⟩

/-- what has been written over -/
def Sd (n : Nat → Nat) (xs : Nat → List Value) (i k : Nat) : Prop := (∀ j, j < i → ∀ q, q < n j → (xs j)[q * 3]? = some (.int .i64 (100 + (j : Int)))) ∧ ∀ q, q < k → (xs i)[q * 3]? = some (.int .i64 (100 + (i : Int)))

theorem Sd.store {n : Nat → Nat} {xs : Nat → List Value} {i k : Nat} {b d : Value} (h : Sd n xs i k) (hl : k * 3 < (xs i).length) : Sd n (upd xs i ((((xs i).set (k * 3) (.int .i64 (100 + (i : Int)))).set (k * 3 + 1) b).set (k * 3 + 2) d)) i (k + 1) := by
  refine ⟨fun j hj q hq => ?_, fun q hq => ?_⟩
  · rw [upd_ne _ _ (by omega)]; exact h.1 j hj q hq
  · rw [upd_same, List.getElem?_set_ne (by omega), List.getElem?_set_ne (by omega)]
    by_cases e : q = k
    · subst e; simp [hl]
    · rw [List.getElem?_set_ne (by omega)]; exact h.2 q (by omega)
theorem Sd.next {n : Nat → Nat} {xs : Nat → List Value} {i : Nat} (h : Sd n xs i (n i)) : Sd n xs (i + 1) 0 := by
  refine ⟨fun j hj q hq => ?_, fun q hq => by omega⟩
  by_cases e : j = i
  · subst e; exact h.2 q hq
  · exact h.1 j (by omega) q hq

end O
end Go.Proofs.Ytlbgfcbhpmhhpab
