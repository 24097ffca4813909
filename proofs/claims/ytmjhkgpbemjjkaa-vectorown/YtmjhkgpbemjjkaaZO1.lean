/-
  The law VectorOwn's rows: a family of rows of Dots, each with a colour (its number by eighteen; the list with a mark has its own): rows of two colours lie in two blocks.
-/
import Derived.Test.YtmjhkgpbemjjkaaZV8
import Derived.Test.YtmjhkgpbemjjkaaZRM
import Derived.OneCell
import Derived.ArgAppend
import Derived.OwnWalk
set_option linter.unusedSimpArgs false
set_option linter.unusedVariables false
namespace Go.Proofs.Ytmjhkgpbemjjkaa
open Go.RowKit Go.Lib

namespace O

def upd {α : Type} (f : Nat → α) (i : Nat) (x : α) : Nat → α := fun j => if j = i then x else f j
theorem upd_same {α : Type} (f : Nat → α) (i : Nat) (x : α) : upd f i x i = x := by simp [upd]
theorem upd_ne {α : Type} (f : Nat → α) {i j : Nat} (x : α) (h : j ≠ i) : upd f i x j = f j := by simp [upd, h]

/-- two rows in two blocks -/
def Apart (v u : Value) : Prop := v.ownBlock = none ∨ v.ownBlock ≠ u.ownBlock

theorem Apart.symm {v u : Value} (h : Apart v u) : Apart u v := by
  rcases h with h | h
  · by_cases e : u.ownBlock = none
    · exact .inl e
    · exact .inr (fun e2 => e (e2.trans h))
  · exact .inr (Ne.symm h)

theorem rows_two {W : World} {B B' e e' m m' n n' : Nat} {v v' : Value} {xs xs' : List Value} (h : W.ownsRow B e m v n xs) (h' : W.ownsRow B' e' m' v' n' xs') (hne : e ≠ e') : v.ownBlock = none ∨ v.ownBlock ≠ v'.ownBlock := by
  rcases h.2 with ⟨rfl, _⟩ | ⟨g, cap, cur, rfl, _, hgb, _⟩
  · exact .inl rfl
  · refine .inr fun e1 => ?_
    rcases h'.2 with ⟨rfl, _⟩ | ⟨g', cap', cur', rfl, _, hgb', _⟩
    · simp [Value.ownBlock] at e1
    · obtain rfl : g = g' := by simpa [Value.ownBlock] using e1
      rw [hgb] at hgb'
      simp at hgb'
      exact hne hgb'.2

theorem own_below {W W' : World} {B e m n : Nat} {v : Value} {xs : List Value} (h : W.ownsRow B e m v n xs) (hb : Below W.heap.size W W') : W'.ownsRow B e m v n xs :=
  ⟨h.1, h.2.elim .inl (fun ⟨g, cap, cur, e1, e2, e3, rest⟩ => .inr ⟨g, cap, cur, e1, e2, (hb.block g (Array.getElem?_eq_some_iff.1 e3).1).trans e3, rest⟩)⟩

theorem own_base {W : World} {B B' e m n : Nat} {v : Value} {xs : List Value} (h : W.ownsRow B e m v n xs) (hb : B' ≤ B) : W.ownsRow B' e m v n xs :=
  ⟨h.1, h.2.elim .inl (fun ⟨g, cap, cur, e1, e2, rest⟩ => .inr ⟨g, cap, cur, e1, Nat.le_trans hb e2, rest⟩)⟩

theorem own_formO {W : World} {B e m n : Nat} {v : Value} {xs : List Value} (h : W.ownsRow B e m v n xs) : ∃ a c, v = .slice a n c := by
  rcases h.2 with ⟨rfl, rfl⟩ | ⟨g, cap, cur, rfl, _⟩
  · exact ⟨_, _, rfl⟩
  · exact ⟨_, _, rfl⟩
theorem own_some {W : World} {B e m n : Nat} {v : Value} {xs : List Value} (h : W.ownsRow B e m v n xs) (hn : 0 < n) : ∃ g c, v = .slice (some ⟨g, 0, none⟩) n c := by
  rcases h.2 with ⟨rfl, rfl⟩ | ⟨g, cap, cur, rfl, _⟩
  · omega
  · exact ⟨_, _, rfl⟩

/-- of two rows in one block the shorter one is a beginning, also when the longer one is gone on from in its place -/
theorem own_prefix {W W' : World} {B e s g n m cap cap' : Nat} {xs zs : List Value} {news : List Value} (h : W.ownsRow B e s (.slice (some ⟨g, 0, none⟩) n cap) n xs) (h' : W.ownsRow B e s (.slice (some ⟨g, 0, none⟩) m cap') m zs) (hs : 0 < s)
    (ho : W'.ownsRow B e s (.slice (some ⟨g, 0, none⟩) (m + 1) cap') (m + 1) (zs ++ news)) (hn : n ≤ m) : W'.ownsRow B e s (.slice (some ⟨g, 0, none⟩) n cap) n xs := by
  rcases h.2 with ⟨h0, _⟩ | ⟨g1, c1, cur1, e1, hg1, hb1, hc1, hm1, hs1, ht1⟩
  · cases h0
  rcases h'.2 with ⟨h0, _⟩ | ⟨g2, c2, cur2, e2, hg2, hb2, hc2, hm2, hs2, ht2⟩
  · cases h0
  rcases ho.2 with ⟨h0, _⟩ | ⟨g3, c3, cur3, e3, hg3, hb3, hc3, hm3, hs3, ht3⟩
  · cases h0
  simp only [Value.slice.injEq, Option.some.injEq, Addr.mk.injEq, and_true, true_and] at e1 e2 e3
  obtain ⟨rfl, rfl⟩ := e1
  obtain ⟨rfl, rfl⟩ := e2
  obtain ⟨rfl, rfl⟩ := e3
  rw [hb1] at hb2
  simp at hb2
  subst hb2
  have hcc : cap = cap' := Nat.eq_of_mul_eq_mul_right hs (hs1.symm.trans hs2)
  subst hcc
  refine ⟨h.1, .inr ⟨_, _, cur3, rfl, hg1, hb3, hc1, hm1, hs3, ?_⟩⟩
  have hle : n * s ≤ m * s := Nat.mul_le_mul_right s hn
  have hle2 : n * s ≤ (m + 1) * s := Nat.mul_le_mul_right s (by omega)
  have hzl : n * s ≤ zs.length := by rw [h'.1]; exact hle
  have a1 : xs = zs.take (n * s) := by rw [← ht1, ← ht2, List.take_take, Nat.min_eq_left hle]
  have a2 : cur3.toList.take (n * s) = (zs ++ news).take (n * s) := by rw [← ht3, List.take_take, Nat.min_eq_left hle2]
  rw [a2, a1, List.take_append_of_le_length hzl]

/-- which rows there are: the first m, and the list with a mark, where there is one -/
def Pm (r : Bool) (m j : Nat) : Prop := j < m ∨ (r = true ∧ j = 100)
def col (j : Nat) : Nat := if j < 100 then j % 18 else j

structure Fm (W1 : World) (r : Bool) (m : Nat) (v : Nat → Value) (n : Nat → Nat) (xs : Nat → List Value) (W : World) : Prop where
  own : ∀ j, Pm r m j → W.ownsRow W1.heap.size 25 2 (v j) (n j) (xs j)
  apart : ∀ j k, Pm r m j → Pm r m k → col j ≠ col k → Apart (v j) (v k)
  bel : Below W1.heap.size W1 W

theorem Fm.start {W1 : World} {v : Nat → Value} {n : Nat → Nat} {xs : Nat → List Value} : Fm W1 false 0 v n xs W1 := ⟨fun j h => absurd h (by rintro (h | h); exact absurd h (by omega); exact absurd h.1 (by decide)), fun j k h => absurd h (by rintro (h | h); exact absurd h (by omega); exact absurd h.1 (by decide)), Below.refl _ _⟩

theorem Fm.below {W1 W W' : World} {r : Bool} {m : Nat} {v : Nat → Value} {n : Nat → Nat} {xs : Nat → List Value} (h : Fm W1 r m v n xs W) (hb : Below W.heap.size W W') : Fm W1 r m v n xs W' :=
  ⟨fun j hj => own_below (h.own j hj) hb, h.apart, h.bel.trans (hb.mono h.bel.size)⟩
theorem Fm.alloc {W1 W : World} {r : Bool} {m : Nat} {v : Nat → Value} {n : Nat → Nat} {xs : Nat → List Value} (h : Fm W1 r m v n xs W) (o : Obj) : Fm W1 r m v n xs (W.alloc o) :=
  ⟨fun j hj => (h.own j hj).alloc o, h.apart, h.bel.alloc h.bel.size o⟩

/-- a row of another type grows -/
theorem Fm.other {W1 W W' : World} {r : Bool} {m : Nat} {v : Nat → Value} {n : Nat → Nat} {xs : Nat → List Value} {B e s q : Nat} {u : Value} {us : List Value} (h : Fm W1 r m v n xs W) (ho : W.ownsRow B e s u q us) (hB : W1.heap.size ≤ B) (hne : 25 ≠ e) (hg : W.grownBy W' u.ownBlock) : Fm W1 r m v n xs W' :=
  ⟨fun j hj => (h.own j hj).kept hg (rows_two (h.own j hj) ho hne), h.apart, h.bel.grown hg h.bel.size (fun k e => Nat.le_trans hB (ho.lt k e).1)⟩

theorem far_new {W1 W W' : World} {r : Bool} {m q : Nat} {v : Nat → Value} {n : Nat → Nat} {xs : Nat → List Value} {u : Value} {us : List Value} (h : Fm W1 r m v n xs W) (ho : W'.ownsRow W.heap.size 25 2 u q us) : ∀ j, Pm r m j → Apart (v j) u := fun j hj => by
  by_cases e : (v j).ownBlock = none
  · exact .inl e
  · refine .inr fun e2 => ?_
    obtain ⟨g, hg⟩ := Option.ne_none_iff_exists'.1 e
    have l1 := ((h.own j hj).lt g hg).2
    have l2 := (ho.lt g (e2 ▸ hg)).1
    omega

theorem Fm.put {W1 W' : World} {r r' : Bool} {m m' i0 : Nat} {v : Nat → Value} {n : Nat → Nat} {xs : Nat → List Value} {q : Nat} {u : Value} {us : List Value} (hP : ∀ j, Pm r' m' j → j ≠ i0 → Pm r m j)
    (own : ∀ j, Pm r m j → j ≠ i0 → W'.ownsRow W1.heap.size 25 2 (v j) (n j) (xs j)) (apart : ∀ j k, Pm r m j → Pm r m k → j ≠ i0 → k ≠ i0 → col j ≠ col k → Apart (v j) (v k)) (bel : Below W1.heap.size W1 W')
    (ho : W'.ownsRow W1.heap.size 25 2 u q us) (far : ∀ j, Pm r m j → j ≠ i0 → col j ≠ col i0 → Apart (v j) u) : Fm W1 r' m' (upd v i0 u) (upd n i0 q) (upd xs i0 us) W' := by
  refine ⟨fun j hj => ?_, fun j k hj hk hne => ?_, bel⟩
  · by_cases e : j = i0
    · subst e; simp only [upd_same]; exact ho
    · simp only [upd_ne _ _ e]; exact own j (hP j hj e) e
  · by_cases e1 : j = i0
    · by_cases e2 : k = i0
      · rw [e1, e2] at hne; exact absurd rfl hne
      · subst e1; rw [upd_same, upd_ne _ _ e2]; exact (far k (hP k hk e2) e2 (Ne.symm hne)).symm
    · by_cases e2 : k = i0
      · subst e2; rw [upd_same, upd_ne _ _ e1]; exact far j (hP j hj e1) e1 hne
      · rw [upd_ne _ _ e1, upd_ne _ _ e2]; exact apart j k (hP j hj e1) (hP k hk e2) e1 e2 hne

/-- a new row -/
theorem Fm.add {W1 W W' : World} {m q : Nat} {v : Nat → Value} {n : Nat → Nat} {xs : Nat → List Value} {u : Value} {us : List Value} (h : Fm W1 false m v n xs W) (hb : Below W.heap.size W W') (ho : W'.ownsRow W.heap.size 25 2 u q us) :
    Fm W1 false (m + 1) (upd v m u) (upd n m q) (upd xs m us) W' :=
  have h' := h.below hb
  Fm.put (r := false) (m := m) (fun j hj hne => by rcases hj with hj | hj; exact .inl (by omega); cases hj.1) (fun j hj _ => h'.own j hj) (fun j k hj hk _ _ => h'.apart j k hj hk) h'.bel (own_base ho h.bel.size) (fun j hj _ _ => far_new h ho j hj)
/-- the list with a mark -/
theorem Fm.mark {W1 W W' : World} {q : Nat} {v : Nat → Value} {n : Nat → Nat} {xs : Nat → List Value} {u : Value} {us : List Value} (h : Fm W1 false 18 v n xs W) (hb : Below W.heap.size W W') (ho : W'.ownsRow W.heap.size 25 2 u q us) :
    Fm W1 true 18 (upd v 100 u) (upd n 100 q) (upd xs 100 us) W' :=
  have h' := h.below hb
  Fm.put (r := false) (m := 18) (fun j hj hne => by rcases hj with hj | hj; exact .inl hj; exact absurd hj.2 hne) (fun j hj _ => h'.own j hj) (fun j k hj hk _ _ => h'.apart j k hj hk) h'.bel (own_base ho h.bel.size) (fun j hj _ _ => far_new h ho j hj)
/-- in another order -/
theorem Fm.perm {W1 W : World} {v : Nat → Value} {n : Nat → Nat} {xs : Nat → List Value} (h : Fm W1 false 18 v n xs W) (p : Nat → Nat) (hp : ∀ j, j < 18 → p j < 18) (hi : ∀ j k, j < 18 → k < 18 → p j = p k → j = k) : Fm W1 false 18 (fun j => v (p j)) (fun j => n (p j)) (fun j => xs (p j)) W := by
  have lt : ∀ j, Pm false 18 j → j < 18 := fun j hj => by rcases hj with hj | hj; exact hj; cases hj.1
  refine ⟨fun j hj => h.own _ (.inl (hp j (lt j hj))), fun j k hj hk hne => ?_, h.bel⟩
  have h1 := lt j hj
  have h2 := lt k hk
  have h3 := hp j h1
  have h4 := hp k h2
  refine h.apart _ _ (.inl h3) (.inl h4) ?_
  unfold col at hne ⊢
  rw [if_pos (by omega), if_pos (by omega)] at hne ⊢
  rw [Nat.mod_eq_of_lt h1, Nat.mod_eq_of_lt h2] at hne
  rw [Nat.mod_eq_of_lt h3, Nat.mod_eq_of_lt h4]
  exact fun e => hne (hi j k h1 h2 e)

theorem col_lt {j : Nat} (h : j < 36) : col j = j % 18 := by unfold col; rw [if_pos (by omega)]
theorem col_mark : col 100 = 100 := rfl

/-- the row that is gone on from stands as a row of its own number and the same colour -/
theorem Fm.again {W1 W : World} {i : Nat} {v : Nat → Value} {n : Nat → Nat} {xs : Nat → List Value} (h : Fm W1 true (18 + i) v n xs W) (hi : i < 18) : Fm W1 true (18 + i + 1) (upd v (18 + i) (v i)) (upd n (18 + i) (n i)) (upd xs (18 + i) (xs i)) W :=
  Fm.put (r := true) (m := 18 + i) (fun j hj hne => by rcases hj with hj | hj; exact .inl (by omega); exact .inr hj) (fun j hj _ => h.own j hj) (fun j k hj hk _ _ => h.apart j k hj hk) h.bel (h.own i (.inl (by omega))) (fun j hj _ hc => h.apart j i hj (.inl (by omega)) (by rw [col_lt (show i < 36 by omega)]; rw [col_lt (show 18 + i < 36 by omega)] at hc; rw [show i % 18 = (18 + i) % 18 by omega]; exact hc))

/-- one of the rows is written into -/
theorem Fm.store {W1 W W' : World} {i : Nat} {v : Nat → Value} {n : Nat → Nat} {xs : Nat → List Value} {us : List Value} (h : Fm W1 true 18 v n xs W) (hi : i < 18) (ho : W'.ownsRow W1.heap.size 25 2 (v i) (n i) us) (hg : W.grownBy W' (v i).ownBlock) : Fm W1 true 18 v n (upd xs i us) W' := by
  refine ⟨fun j hj => ?_, h.apart, h.bel.grown hg h.bel.size (fun k e => ((h.own i (.inl hi)).lt k e).1)⟩
  by_cases e : j = i
  · subst e; rw [upd_same]; exact ho
  · rw [upd_ne _ _ e]
    refine (h.own j hj).kept hg (h.apart j i hj (.inl hi) ?_)
    rw [col_lt (show i < 36 by omega)]
    rcases hj with hj | hj
    · rw [col_lt (show j < 36 by omega)]; omega
    · rw [hj.2, col_mark]; omega

/-- the last row goes on in its place -/
theorem Fm.fits {W1 W W' : World} {i g cap : Nat} {v : Nat → Value} {n : Nat → Nat} {xs : Nat → List Value} {news : List Value} (h : Fm W1 true (18 + i + 1) v n xs W) (hi : i < 18) (hn : n i ≤ n (18 + i)) (hv : v (18 + i) = .slice (some ⟨g, 0, none⟩) (n (18 + i)) cap)
    (ho : W'.ownsRow W1.heap.size 25 2 (.slice (some ⟨g, 0, none⟩) (n (18 + i) + 1) cap) (n (18 + i) + 1) (xs (18 + i) ++ news)) (hg : W.grownBy W' (some g)) :
    Fm W1 true (18 + i + 1) (upd v (18 + i) (.slice (some ⟨g, 0, none⟩) (n (18 + i) + 1) cap)) (upd n (18 + i) (n (18 + i) + 1)) (upd xs (18 + i) (xs (18 + i) ++ news)) W' := by
  have hown := h.own (18 + i) (.inl (by omega))
  rw [hv] at hown
  have hob : (v (18 + i)).ownBlock = some g := by rw [hv]; rfl
  have hub : (Value.slice (some ⟨g, 0, none⟩) (n (18 + i) + 1) cap).ownBlock = (v (18 + i)).ownBlock := by rw [hob]; rfl
  have keep : ∀ j, Pm true (18 + i + 1) j → col j ≠ col (18 + i) → W'.ownsRow W1.heap.size 25 2 (v j) (n j) (xs j) := fun j hj hc => (h.own j hj).kept hg (by have := h.apart j (18 + i) hj (.inl (by omega)) hc; rw [Apart, hob] at this; exact this)
  refine Fm.put (r := true) (m := 18 + i + 1) (fun j hj _ => hj) (fun j hj hne => ?_) (fun j k hj hk _ _ => h.apart j k hj hk) (h.bel.grown hg h.bel.size (fun k e => by cases e; exact (hown.lt g rfl).1)) ho (fun j hj _ hc => by rw [Apart, hub]; exact h.apart j (18 + i) hj (.inl (by omega)) hc)
  by_cases ec : col j = col (18 + i)
  · have hji : j = i := by
      rw [col_lt (show 18 + i < 36 by omega)] at ec
      rcases hj with hj | hj
      · rw [col_lt (show j < 36 by omega)] at ec; omega
      · rw [hj.2, col_mark] at ec; omega
    subst hji
    by_cases eb : (v j).ownBlock = some g
    · have hj0 := h.own j (.inl (by omega))
      rcases hj0.2 with ⟨e0, _⟩ | ⟨g1, c1, cur1, e1, _⟩
      · rw [e0] at eb; cases eb
      · rw [e1] at eb hj0
        obtain rfl : g1 = g := by simpa [Value.ownBlock] using eb
        have := own_prefix hj0 hown (by decide) ho hn
        rw [e1]
        exact this
    · exact (h.own j (.inl (by omega))).kept hg (.inr eb)
  · exact keep j hj ec

/-- the last row goes on elsewhere -/
theorem Fm.grows {W1 W W' : World} {i q : Nat} {v : Nat → Value} {n : Nat → Nat} {xs : Nat → List Value} {u : Value} {us : List Value} (h : Fm W1 true (18 + i + 1) v n xs W) (ho : W'.ownsRow W.heap.size 25 2 u q us) (hg : W.grownBy W' none) :
    Fm W1 true (18 + i + 1) (upd v (18 + i) u) (upd n (18 + i) q) (upd xs (18 + i) us) W' := by
  have hk : ∀ j, Pm true (18 + i + 1) j → W'.ownsRow W1.heap.size 25 2 (v j) (n j) (xs j) := fun j hj => (h.own j hj).kept hg (by
    by_cases e : (v j).ownBlock = none
    · exact .inl e
    · exact .inr e)
  exact Fm.put (r := true) (m := 18 + i + 1) (fun j hj _ => hj) (fun j hj _ => hk j hj) (fun j k hj hk _ _ => h.apart j k hj hk) (h.bel.grown hg h.bel.size (fun k e => by cases e)) (own_base ho h.bel.size) (fun j hj _ _ => far_new h ho j hj)

theorem grownBy_trans {W W' W'' : World} {r : Option Nat} (h : W.grownBy W' r) (k : W'.grownBy W'' r) : W.grownBy W'' r :=
  ⟨k.os.trans h.os, k.tape.trans h.tape, k.output.trans h.output, Nat.le_trans h.size k.size, fun q hq hne => (k.block q (Nat.lt_of_lt_of_le hq h.size) hne).trans (h.block q hq hne)⟩

/-- two cells are written -/
theorem Fm.store2 {W1 W : World} {i g c : Nat} {v : Nat → Value} {n : Nat → Nat} {xs : Nat → List Value} (h : Fm W1 true 18 v n xs W) (hi : i < 18) (hv : v i = .slice (some ⟨g, 0, none⟩) (n i) c) (j : Nat) (a b : Value) :
    Fm W1 true 18 v n (upd xs i (((xs i).set j a).set (j + 1) b)) ((W.setCell ⟨g, j, none⟩ a).setCell ⟨g, j + 1, none⟩ b) ∧
      W.grownBy ((W.setCell ⟨g, j, none⟩ a).setCell ⟨g, j + 1, none⟩ b) (some g) := by
  have h0 := h.own i (.inl hi)
  rw [hv] at h0
  obtain ⟨h1, g1⟩ := h0.stored j a
  obtain ⟨h2, g2⟩ := h1.stored (j + 1) b
  have hg := grownBy_trans g1 g2
  exact ⟨h.store hi (by rw [hv]; exact h2) (by rw [hv]; exact hg), hg⟩

/-- what has been written over -/
def Is (ys : List Value) (q : Nat) (s t : Int) : Prop := ys[q * 2]? = some (.int .i64 s) ∧ ys[q * 2 + 1]? = some (.int .i64 t)
def Sd (n : Nat → Nat) (xs : Nat → List Value) (i k : Nat) : Prop := (∀ j, j < i → ∀ q, q < n j → Is (xs j) q (1000 + (j : Int)) q) ∧ ∀ q, q < k → Is (xs i) q (1000 + (i : Int)) q
theorem Sd.store {n : Nat → Nat} {xs : Nat → List Value} {i k : Nat} (h : Sd n xs i k) (hl : k * 2 + 1 < (xs i).length) : Sd n (upd xs i (((xs i).set (k * 2) (.int .i64 (1000 + (i : Int)))).set (k * 2 + 1) (.int .i64 (k : Nat)))) i (k + 1) := by
  refine ⟨fun j hj q hq => ?_, fun q hq => ?_⟩
  · rw [upd_ne _ _ (by omega)]; exact h.1 j hj q hq
  · rw [upd_same]
    by_cases e : q = k
    · subst e
      refine ⟨?_, ?_⟩
      · rw [List.getElem?_set_ne (by omega)]; exact List.getElem?_set_self (by omega)
      · exact List.getElem?_set_self (by rw [List.length_set]; omega)
    · have := h.2 q (by omega)
      refine ⟨?_, ?_⟩
      · rw [List.getElem?_set_ne (by omega), List.getElem?_set_ne (by omega)]; exact this.1
      · rw [List.getElem?_set_ne (by omega), List.getElem?_set_ne (by omega)]; exact this.2
theorem Sd.next {n : Nat → Nat} {xs : Nat → List Value} {i : Nat} (h : Sd n xs i (n i)) : Sd n xs (i + 1) 0 := by
  refine ⟨fun j hj q hq => ?_, fun q hq => by omega⟩
  by_cases e : j = i
  · subst e; exact h.2 q hq
  · exact h.1 j (by omega) q hq

end O
end Go.Proofs.Ytmjhkgpbemjjkaa
