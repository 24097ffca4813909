/-
  The law OpOwn's rows: three rows of bytes, of Dots and of runs, nine that go on from them (of the same colour), and the two arrays that keep them: rows of two colours lie in two blocks.
-/
import Derived.Test.YtnmkaidpfoglkaaZW1
import Derived.OneCell
import Derived.ArgAppend
import Derived.OwnWalk
set_option linter.unusedSimpArgs false
set_option linter.unusedVariables false
namespace Go.Proofs.Ytnmkaidpfoglkaa
open Go.RowKit Go.Lib

namespace O

def upd {α : Type} (f : Nat → α) (i : Nat) (x : α) : Nat → α := fun j => if j = i then x else f j
theorem upd_same {α : Type} (f : Nat → α) (i : Nat) (x : α) : upd f i x i = x := by simp [upd]
theorem upd_ne {α : Type} (f : Nat → α) {i j : Nat} (x : α) (h : j ≠ i) : upd f i x j = f j := by simp [upd, h]

/-- two rows in two blocks -/
def Apart (v u : Value) : Prop := v.ownBlock = none ∨ v.ownBlock ≠ u.ownBlock

theorem Apart.symm {v u : Value} (h : Apart v u) : Apart u v := by
  rcases h with h | h
  · by_cases e : u.ownBlock = none
    · exact .inl e
    · exact .inr (fun e2 => e (e2.trans h))
  · exact .inr (Ne.symm h)

theorem rows_two {W : World} {B B' e e' m m' n n' : Nat} {v v' : Value} {xs xs' : List Value} (h : W.ownsRow B e m v n xs) (h' : W.ownsRow B' e' m' v' n' xs') (hne : e ≠ e') : v.ownBlock = none ∨ v.ownBlock ≠ v'.ownBlock := by
  rcases h.2 with ⟨rfl, _⟩ | ⟨g, cap, cur, rfl, _, hgb, _⟩
  · exact .inl rfl
  · refine .inr fun e1 => ?_
    rcases h'.2 with ⟨rfl, _⟩ | ⟨g', cap', cur', rfl, _, hgb', _⟩
    · simp [Value.ownBlock] at e1
    · obtain rfl : g = g' := by simpa [Value.ownBlock] using e1
      rw [hgb] at hgb'
      simp at hgb'
      exact hne hgb'.2

theorem own_below {W W' : World} {B e m n : Nat} {v : Value} {xs : List Value} (h : W.ownsRow B e m v n xs) (hb : Below W.heap.size W W') : W'.ownsRow B e m v n xs :=
  ⟨h.1, h.2.elim .inl (fun ⟨g, cap, cur, e1, e2, e3, rest⟩ => .inr ⟨g, cap, cur, e1, e2, (hb.block g (Array.getElem?_eq_some_iff.1 e3).1).trans e3, rest⟩)⟩

theorem own_base {W : World} {B B' e m n : Nat} {v : Value} {xs : List Value} (h : W.ownsRow B e m v n xs) (hb : B' ≤ B) : W.ownsRow B' e m v n xs :=
  ⟨h.1, h.2.elim .inl (fun ⟨g, cap, cur, e1, e2, rest⟩ => .inr ⟨g, cap, cur, e1, Nat.le_trans hb e2, rest⟩)⟩

theorem own_formO {W : World} {B e m n : Nat} {v : Value} {xs : List Value} (h : W.ownsRow B e m v n xs) : ∃ a c, v = .slice a n c := by
  rcases h.2 with ⟨rfl, rfl⟩ | ⟨g, cap, cur, rfl, _⟩
  · exact ⟨_, _, rfl⟩
  · exact ⟨_, _, rfl⟩
theorem own_some {W : World} {B e m n : Nat} {v : Value} {xs : List Value} (h : W.ownsRow B e m v n xs) (hn : 0 < n) : ∃ g c, v = .slice (some ⟨g, 0, none⟩) n c := by
  rcases h.2 with ⟨rfl, rfl⟩ | ⟨g, cap, cur, rfl, _⟩
  · omega
  · exact ⟨_, _, rfl⟩

/-- of two rows in one block the shorter one is a beginning, also when the longer one is gone on from in its place -/
theorem own_prefix {W W' : World} {B e s g n m cap cap' : Nat} {xs zs : List Value} {news : List Value} (h : W.ownsRow B e s (.slice (some ⟨g, 0, none⟩) n cap) n xs) (h' : W.ownsRow B e s (.slice (some ⟨g, 0, none⟩) m cap') m zs) (hs : 0 < s)
    (ho : W'.ownsRow B e s (.slice (some ⟨g, 0, none⟩) (m + 1) cap') (m + 1) (zs ++ news)) (hn : n ≤ m) : W'.ownsRow B e s (.slice (some ⟨g, 0, none⟩) n cap) n xs := by
  rcases h.2 with ⟨h0, _⟩ | ⟨g1, c1, cur1, e1, hg1, hb1, hc1, hm1, hs1, ht1⟩
  · cases h0
  rcases h'.2 with ⟨h0, _⟩ | ⟨g2, c2, cur2, e2, hg2, hb2, hc2, hm2, hs2, ht2⟩
  · cases h0
  rcases ho.2 with ⟨h0, _⟩ | ⟨g3, c3, cur3, e3, hg3, hb3, hc3, hm3, hs3, ht3⟩
  · cases h0
  simp only [Value.slice.injEq, Option.some.injEq, Addr.mk.injEq, and_true, true_and] at e1 e2 e3
  obtain ⟨rfl, rfl⟩ := e1
  obtain ⟨rfl, rfl⟩ := e2
  obtain ⟨rfl, rfl⟩ := e3
  rw [hb1] at hb2
  simp at hb2
  subst hb2
  have hcc : cap = cap' := Nat.eq_of_mul_eq_mul_right hs (hs1.symm.trans hs2)
  subst hcc
  refine ⟨h.1, .inr ⟨_, _, cur3, rfl, hg1, hb3, hc1, hm1, hs3, ?_⟩⟩
  have hle : n * s ≤ m * s := Nat.mul_le_mul_right s hn
  have hle2 : n * s ≤ (m + 1) * s := Nat.mul_le_mul_right s (by omega)
  have hzl : n * s ≤ zs.length := by rw [h'.1]; exact hle
  have a1 : xs = zs.take (n * s) := by rw [← ht1, ← ht2, List.take_take, Nat.min_eq_left hle]
  have a2 : cur3.toList.take (n * s) = (zs ++ news).take (n * s) := by rw [← ht3, List.take_take, Nat.min_eq_left hle2]
  rw [a2, a1, List.take_append_of_le_length hzl]

theorem grownBy_trans {W W' W'' : World} {r : Option Nat} (h : W.grownBy W' r) (k : W'.grownBy W'' r) : W.grownBy W'' r :=
  ⟨k.os.trans h.os, k.tape.trans h.tape, k.output.trans h.output, Nat.le_trans h.size k.size, fun q hq hne => (k.block q (Nat.lt_of_lt_of_le hq h.size) hne).trans (h.block q hq hne)⟩



/-- 0 to 2 bytes, 3 to 5 Dots, 6 to 8 runs, 9 to 17 those that go on from these, 18 the array of the bytes, 19 that of the operations -/
def col (j : Nat) : Nat := if j < 9 then j else if j < 18 then j - 9 else j
def eb (k : Nat) : Nat := if k < 3 then 5 else if k < 6 then 23 else if k < 9 then 36 else if k = 18 then 42 else 43
def sb (k : Nat) : Nat := if k < 3 then 1 else if k < 6 then 2 else if k < 9 then 3 else if k = 18 then 1 else 11
def ee (j : Nat) : Nat := eb (col j)
def ss (j : Nat) : Nat := sb (col j)
theorem col_lo {j : Nat} (h : j < 9) : col j = j := by unfold col; rw [if_pos h]
theorem col_nine {j : Nat} (h : j < 9) : col (9 + j) = col j := by unfold col; rw [if_neg (by omega), if_pos (by omega), if_pos h]; omega
theorem ee_nine {j : Nat} (h : j < 9) : ee (9 + j) = ee j := by unfold ee; rw [col_nine h]
theorem ss_nine {j : Nat} (h : j < 9) : ss (9 + j) = ss j := by unfold ss; rw [col_nine h]
theorem ss_pos (j : Nat) : 0 < ss j := by unfold ss sb; split; omega; split; omega; split; omega; split <;> omega
theorem col_same {j k : Nat} (hj : j < 9) (hk : k < 20) (h : col k = col j) : k = j ∨ k = 9 + j := by
  rw [col_lo hj] at h
  unfold col at h
  split at h
  · omega
  · split at h <;> omega
theorem col_box {g k : Nat} (h : col k = col (18 + g)) (hk : k < 20) : k = 18 + g := by
  unfold col at h
  rw [if_neg (show ¬ 18 + g < 9 by omega), if_neg (show ¬ 18 + g < 18 by omega)] at h
  split at h
  · omega
  · split at h <;> omega

structure Fam (W1 : World) (v : Nat → Value) (n : Nat → Nat) (xs : Nat → List Value) (W : World) : Prop where
  own : ∀ j, j < 20 → W.ownsRow W1.heap.size (ee j) (ss j) (v j) (n j) (xs j)
  apart : ∀ j k, j < 20 → k < 20 → col j ≠ col k → Apart (v j) (v k)
  bel : Below W1.heap.size W1 W

variable {W1 W W' : World} {v : Nat → Value} {n : Nat → Nat} {xs : Nat → List Value} {u : Value} {us : List Value} {q : Nat}

theorem Fam.below (h : Fam W1 v n xs W) (hb : Below W.heap.size W W') : Fam W1 v n xs W' :=
  ⟨fun j hj => own_below (h.own j hj) hb, h.apart, h.bel.trans (hb.mono h.bel.size)⟩
theorem Fam.alloc (h : Fam W1 v n xs W) (o : Obj) : Fam W1 v n xs (W.alloc o) :=
  ⟨fun j hj => (h.own j hj).alloc o, h.apart, h.bel.alloc h.bel.size o⟩

theorem Fam.put {j : Nat} (own : ∀ k, k < 20 → k ≠ j → W'.ownsRow W1.heap.size (ee k) (ss k) (v k) (n k) (xs k)) (apart : ∀ j k, j < 20 → k < 20 → col j ≠ col k → Apart (v j) (v k)) (bel : Below W1.heap.size W1 W')
    (ho : W'.ownsRow W1.heap.size (ee j) (ss j) u q us) (far : ∀ k, k < 20 → k ≠ j → col k ≠ col j → Apart (v k) u) : Fam W1 (upd v j u) (upd n j q) (upd xs j us) W' := by
  refine ⟨fun k hk => ?_, fun a b ha hb hne => ?_, bel⟩
  · by_cases e : k = j
    · subst e; simp only [upd_same]; exact ho
    · simp only [upd_ne _ _ e]; exact own k hk e
  · by_cases e1 : a = j
    · by_cases e2 : b = j
      · rw [e1, e2] at hne; exact absurd rfl hne
      · subst e1; rw [upd_same, upd_ne _ _ e2]; exact (far b hb e2 (Ne.symm hne)).symm
    · by_cases e2 : b = j
      · subst e2; rw [upd_same, upd_ne _ _ e1]; exact far a ha e1 hne
      · rw [upd_ne _ _ e1, upd_ne _ _ e2]; exact apart a b ha hb hne

theorem far_new {e s : Nat} (h : Fam W1 v n xs W) (ho : W'.ownsRow W.heap.size e s u q us) : ∀ k, k < 20 → Apart (v k) u := fun k hk => by
  by_cases e : (v k).ownBlock = none
  · exact .inl e
  · refine .inr fun e2 => ?_
    obtain ⟨g, hg⟩ := Option.ne_none_iff_exists'.1 e
    have l1 := ((h.own k hk).lt g hg).2
    have l2 := (ho.lt g (e2 ▸ hg)).1
    omega

/-- a new row -/
theorem Fam.fresh {j : Nat} (h : Fam W1 v n xs W) (hb : Below W.heap.size W W') (ho : W'.ownsRow W.heap.size (ee j) (ss j) u q us) : Fam W1 (upd v j u) (upd n j q) (upd xs j us) W' :=
  have h' := h.below hb
  Fam.put (fun k hk _ => h'.own k hk) h'.apart h'.bel (own_base ho h.bel.size) (fun k hk _ _ => far_new h ho k hk)

/-- two new rows -/
theorem Fam.two {j j' q' : Nat} {u' : Value} {us' : List Value} (h : Fam W1 v n xs W) (hb : Below W.heap.size W W') (ho : W'.ownsRow W.heap.size (ee j) (ss j) u q us) (ho' : W'.ownsRow W.heap.size (ee j') (ss j') u' q' us') (ha : Apart u u') :
    Fam W1 (upd (upd v j u) j' u') (upd (upd n j q) j' q') (upd (upd xs j us) j' us') W' := by
  have h1 := h.fresh hb ho
  refine Fam.put (fun k hk _ => h1.own k hk) h1.apart h1.bel (own_base ho' h.bel.size) (fun k hk _ _ => ?_)
  by_cases e : k = j
  · subst e; rw [upd_same]; exact ha
  · rw [upd_ne _ _ e]; exact far_new h ho' k hk

/-- a row is written into, no other one lies in its block -/
theorem Fam.store {j : Nat} (h : Fam W1 v n xs W) (hj : j < 20) (hs : ∀ k, k < 20 → k ≠ j → col k = col j → (v k).ownBlock = none) (ho : W'.ownsRow W1.heap.size (ee j) (ss j) (v j) (n j) us) (hg : W.grownBy W' (v j).ownBlock) : Fam W1 v n (upd xs j us) W' := by
  refine ⟨fun k hk => ?_, h.apart, h.bel.grown hg h.bel.size (fun k e => ((h.own j hj).lt k e).1)⟩
  by_cases e : k = j
  · subst e; rw [upd_same]; exact ho
  · rw [upd_ne _ _ e]
    by_cases ec : col k = col j
    · exact (h.own k hk).kept hg (.inl (hs k hk e ec))
    · exact (h.own k hk).kept hg (h.apart k j hk hj ec)

/-- the row that is gone on from -/
theorem Fam.again {j : Nat} (h : Fam W1 v n xs W) (hj : j < 9) : Fam W1 (upd v (9 + j) (v j)) (upd n (9 + j) (n j)) (upd xs (9 + j) (xs j)) W :=
  Fam.put (fun k hk _ => h.own k hk) h.apart h.bel (by rw [ee_nine hj, ss_nine hj]; exact h.own j (by omega)) (fun k hk _ hc => h.apart k j hk (by omega) (by rw [col_nine hj] at hc; exact hc))

/-- it goes on in its place -/
theorem Fam.fits {j g cap : Nat} {news : List Value} (h : Fam W1 v n xs W) (hj : j < 9) (hn : n j ≤ n (9 + j)) (hv : v (9 + j) = .slice (some ⟨g, 0, none⟩) (n (9 + j)) cap)
    (ho : W'.ownsRow W1.heap.size (ee (9 + j)) (ss (9 + j)) (.slice (some ⟨g, 0, none⟩) (n (9 + j) + 1) cap) (n (9 + j) + 1) (xs (9 + j) ++ news)) (hg : W.grownBy W' (some g)) :
    Fam W1 (upd v (9 + j) (.slice (some ⟨g, 0, none⟩) (n (9 + j) + 1) cap)) (upd n (9 + j) (n (9 + j) + 1)) (upd xs (9 + j) (xs (9 + j) ++ news)) W' := by
  have hown := h.own (9 + j) (by omega)
  rw [hv] at hown
  have hob : (v (9 + j)).ownBlock = some g := by rw [hv]; rfl
  have hub : (Value.slice (some ⟨g, 0, none⟩) (n (9 + j) + 1) cap).ownBlock = (v (9 + j)).ownBlock := by rw [hob]; rfl
  refine Fam.put (fun k hk hne => ?_) h.apart (h.bel.grown hg h.bel.size (fun k e => by cases e; exact (hown.lt g rfl).1)) ho (fun k hk _ hc => by rw [Apart, hub]; exact h.apart k (9 + j) hk (by omega) hc)
  by_cases ec : col k = col (9 + j)
  · have hkj : k = j := (col_same hj hk (ec.trans (col_nine hj))).resolve_right hne
    subst hkj
    by_cases eb : (v k).ownBlock = some g
    · have hj0 := h.own k (by omega)
      rcases hj0.2 with ⟨e0, _⟩ | ⟨g1, c1, cur1, e1, _⟩
      · rw [e0] at eb; cases eb
      · rw [e1] at eb hj0
        obtain rfl : g1 = g := by simpa [Value.ownBlock] using eb
        rw [ee_nine hj, ss_nine hj] at ho hown
        have := own_prefix hj0 hown (ss_pos k) ho hn
        rw [e1]
        exact this
    · exact (h.own k hk).kept hg (.inr eb)
  · exact (h.own k hk).kept hg (by have := h.apart k (9 + j) hk (by omega) ec; rw [Apart, hob] at this; exact this)

/-- it goes on elsewhere -/
theorem Fam.grows {j : Nat} (h : Fam W1 v n xs W) (ho : W'.ownsRow W.heap.size (ee j) (ss j) u q us) (hg : W.grownBy W' none) : Fam W1 (upd v j u) (upd n j q) (upd xs j us) W' :=
  Fam.put (fun k hk _ => (h.own k hk).kept hg (by
    by_cases e : (v k).ownBlock = none
    · exact .inl e
    · exact .inr e)) h.apart (h.bel.grown hg h.bel.size (fun k e => by cases e)) (own_base ho h.bel.size) (fun k hk _ _ => far_new h ho k hk)

/-- many cells are written -/
def sets (W : World) (b : Nat) : Nat → List Value → World
  | _, [] => W
  | o, c :: cs => sets (W.setCell ⟨b, o, none⟩ c) b (o + 1) cs
def lsets (xs : List Value) : Nat → List Value → List Value
  | _, [] => xs
  | o, c :: cs => lsets (xs.set o c) (o + 1) cs
theorem lsets_len : ∀ (cs xs : List Value) (o : Nat), (lsets xs o cs).length = xs.length
  | [], _, _ => rfl
  | c :: cs, xs, o => by rw [lsets, lsets_len cs, List.length_set]
theorem lsets_out : ∀ (cs xs : List Value) (o q : Nat), q < o ∨ o + cs.length ≤ q → (lsets xs o cs)[q]? = xs[q]?
  | [], _, _, _, _ => rfl
  | c :: cs, xs, o, q, h => by
    rw [List.length_cons] at h
    rw [lsets, lsets_out cs _ _ _ (by omega), List.getElem?_set_ne (by omega)]
theorem lsets_in : ∀ (cs xs : List Value) (o k : Nat), k < cs.length → o + k < xs.length → (lsets xs o cs)[o + k]? = cs[k]?
  | c :: cs, xs, o, 0, _, hl => by
    rw [lsets, lsets_out cs _ _ _ (by omega)]
    exact List.getElem?_set_self hl
  | c :: cs, xs, o, k + 1, h, hl => by
    rw [List.length_cons] at h
    rw [lsets, show o + (k + 1) = o + 1 + k by omega, lsets_in cs _ _ _ (by omega) (by rw [List.length_set]; omega)]
    rfl
theorem own_sets {B e s b m c : Nat} : ∀ (cs : List Value) {xs : List Value} {W : World} (o : Nat), W.ownsRow B e s (.slice (some ⟨b, 0, none⟩) m c) m xs → (sets W b o cs).ownsRow B e s (.slice (some ⟨b, 0, none⟩) m c) m (lsets xs o cs) ∧ W.grownBy (sets W b o cs) (some b)
  | [], xs, W, o, h => ⟨h, World.grownBy.refl _ _⟩
  | x :: cs, xs, W, o, h => by
    obtain ⟨h1, g1⟩ := h.stored o x
    obtain ⟨h2, g2⟩ := own_sets cs (o + 1) h1
    exact ⟨h2, grownBy_trans g1 g2⟩

/-- the arrays -/
def tri (v : Nat → Value) : List Value := [v 0, v 1, v 2]
theorem tri_set {i : Nat} (hi : i < 3) (v : Nat → Value) (u : Value) : (tri v).set i u = tri (upd v i u) := by
  match i, hi with
  | 0, _ => simp [tri, upd]
  | 1, _ => simp [tri, upd]
  | 2, _ => simp [tri, upd]
theorem tri_ne {v : Nat → Value} {j : Nat} (u : Value) (h : 3 ≤ j) : tri (upd v j u) = tri v := by
  unfold tri
  rw [upd_ne _ _ (by omega), upd_ne _ _ (by omega), upd_ne _ _ (by omega)]
theorem tri_get {i : Nat} (hi : i < 3) (v : Nat → Value) : (tri v)[i]? = some (v i) := by
  match i, hi with
  | 0, _ => rfl
  | 1, _ => rfl
  | 2, _ => rfl
theorem Apart.none (u : Value) : Apart (.slice none 0 0) u := .inl rfl

structure BS (W1 : World) (b0 b1 c : Nat) (v : Nat → Value) (n : Nat → Nat) (xs : Nat → List Value) (W : World) : Prop where
  fm : Fam W1 v n xs W
  x0 : v 18 = .slice (some ⟨b0, 0, none⟩) 3 3 ∧ n 18 = 3 ∧ xs 18 = tri v
  x1 : v 19 = .slice (some ⟨b1, 0, none⟩) 3 3 ∧ n 19 = 3 ∧ ∀ j, j < c → (xs 19)[j * 11 + 2]? = some (v (3 + j)) ∧ (xs 19)[j * 11 + 9]? = some (v (6 + j))

variable {b0 b1 c i : Nat}

theorem BS.below (h : BS W1 b0 b1 c v n xs W) (hb : Below W.heap.size W W') : BS W1 b0 b1 c v n xs W' := ⟨h.fm.below hb, h.x0, h.x1⟩
theorem BS.alloc (h : BS W1 b0 b1 c v n xs W) (o : Obj) : BS W1 b0 b1 c v n xs (W.alloc o) := ⟨h.fm.alloc o, h.x0, h.x1⟩
theorem ss18 : ss 18 = 1 := rfl
theorem ss19 : ss 19 = 11 := rfl
theorem BS.get0 (h : BS W1 b0 b1 c v n xs W) (hi : i < 3) : W.cell? ⟨b0, i, none⟩ = some (v i) ∧ W.frozen? ⟨b0, i, none⟩ = false ∧ b0 < W.heap.size := by
  obtain ⟨h1, h2, h3⟩ := h.x0
  have ho := h.fm.own 18 (by omega)
  rw [h1, h2, h3, ss18] at ho
  exact ⟨(ho.cellAt i (by omega)).trans (tri_get hi _), ho.frozenAt i, (ho.lt _ rfl).2⟩
theorem BS.row1 (h : BS W1 b0 b1 c v n xs W) : W.ownsRow W1.heap.size (ee 19) 11 (.slice (some ⟨b1, 0, none⟩) 3 3) 3 (xs 19) := by
  obtain ⟨h1, h2, _⟩ := h.x1
  have ho := h.fm.own 19 (by omega)
  rw [h1, h2, ss19] at ho
  exact ho
theorem BS.get1 (h : BS W1 b0 b1 c v n xs W) (hi : i < 3) (hc : i < c) : W.cell? ⟨b1, i * 11 + 2, none⟩ = some (v (3 + i)) ∧ W.cell? ⟨b1, i * 11 + 9, none⟩ = some (v (6 + i)) ∧ b1 < W.heap.size := by
  have ho := h.row1
  obtain ⟨e1, e2⟩ := h.x1.2.2 i hc
  exact ⟨(ho.cellAt _ (by omega)).trans e1, (ho.cellAt _ (by omega)).trans e2, (ho.lt _ rfl).2⟩

/-- bytes into their array -/
theorem BS.set0 (h : BS W1 b0 b1 c v n xs W) (hi : i < 3) (hf : Fam W1 (upd v i u) (upd n i q) (upd xs i us) W') :
    BS W1 b0 b1 c (upd v i u) (upd n i q) (upd (upd xs i us) 18 (tri (upd v i u))) (W'.setCell ⟨b0, i, none⟩ u) := by
  obtain ⟨h1, h2, h3⟩ := h.x0
  have ho := hf.own 18 (by omega)
  have ev : upd v i u 18 = .slice (some ⟨b0, 0, none⟩) 3 3 := by rw [upd_ne _ _ (by omega)]; exact h1
  rw [ev, upd_ne _ _ (show 18 ≠ i by omega), upd_ne _ _ (show 18 ≠ i by omega), h2, h3] at ho
  obtain ⟨k1, k2⟩ := ho.stored i u
  rw [tri_set hi] at k1
  refine ⟨hf.store (j := 18) (by omega) (fun k hk hne hc => absurd (col_box (g := 0) hc hk) hne) (by rw [ev, upd_ne _ _ (by omega), h2]; exact k1) (by rw [ev]; exact k2), ⟨ev, by rw [upd_ne _ _ (by omega)]; exact h2, upd_same _ _ _⟩, ?_⟩
  obtain ⟨f1, f2, f3⟩ := h.x1
  rw [upd_ne _ _ (by omega), upd_ne _ _ (by omega), upd_ne _ _ (by omega), upd_ne _ _ (by omega)]
  exact ⟨f1, f2, fun j hj => by rw [upd_ne _ _ (by omega), upd_ne _ _ (by omega)]; exact f3 j hj⟩
theorem BS.slot0 (h : BS W1 b0 b1 c v n xs W) (hi : i < 3) (hb : Below W.heap.size W W') : W'.cell? ⟨b0, i, none⟩ = some (v i) ∧ W'.frozen? ⟨b0, i, none⟩ = false ∧ b0 < W'.heap.size := (h.below hb).get0 hi

/-- an operation into its array -/
theorem BS.set1 {D G : Nat} {u' : Value} {us' : List Value} {c0 c1 c3 c4 c5 c6 c7 c8 c10 : Value} (h : BS W1 b0 b1 i v n xs W) (hi : i < 3) (hb : Below W.heap.size W W') (ho : W'.ownsRow W.heap.size 23 2 u D us) (ho' : W'.ownsRow W.heap.size 36 3 u' G us') (ha : ∀ k, u.ownBlock = some k → u'.ownBlock ≠ some k) :
    BS W1 b0 b1 (i + 1) (upd (upd v (3 + i) u) (6 + i) u') (upd (upd n (3 + i) D) (6 + i) G) (upd (upd (upd xs (3 + i) us) (6 + i) us') 19 (lsets (xs 19) (i * 11) [c0, c1, u, c3, c4, c5, c6, c7, c8, u', c10])) (sets W' b1 (i * 11) [c0, c1, u, c3, c4, c5, c6, c7, c8, u', c10]) ∧
    (∀ k, k < 11 → (sets W' b1 (i * 11) [c0, c1, u, c3, c4, c5, c6, c7, c8, u', c10]).cell? ⟨b1, i * 11 + k, none⟩ = [c0, c1, u, c3, c4, c5, c6, c7, c8, u', c10][k]?) := by
  have e1 : ee (3 + i) = 23 ∧ ss (3 + i) = 2 := by
    unfold ee ss eb sb
    rw [col_lo (by omega), if_neg (by omega), if_pos (by omega), if_neg (by omega), if_pos (by omega)]
    exact ⟨rfl, rfl⟩
  have e2 : ee (6 + i) = 36 ∧ ss (6 + i) = 3 := by
    unfold ee ss eb sb
    rw [col_lo (by omega), if_neg (by omega), if_neg (by omega), if_pos (by omega), if_neg (by omega), if_neg (by omega), if_pos (by omega)]
    exact ⟨rfl, rfl⟩
  have hap : Apart u u' := by
    by_cases e : u.ownBlock = none
    · exact .inl e
    · obtain ⟨g, hg⟩ := Option.ne_none_iff_exists'.1 e
      exact .inr (fun e2 => ha g hg (e2 ▸ hg))
  have hf := h.fm.two (j := 3 + i) (j' := 6 + i) hb (by rw [e1.1, e1.2]; exact ho) (by rw [e2.1, e2.2]; exact ho') hap
  obtain ⟨h1, h2, h3⟩ := h.x1
  have hr := hf.own 19 (by omega)
  have ev : upd (upd v (3 + i) u) (6 + i) u' 19 = .slice (some ⟨b1, 0, none⟩) 3 3 := by rw [upd_ne _ _ (by omega), upd_ne _ _ (by omega)]; exact h1
  have en : upd (upd n (3 + i) D) (6 + i) G 19 = 3 := by rw [upd_ne _ _ (by omega), upd_ne _ _ (by omega)]; exact h2
  have ex : upd (upd xs (3 + i) us) (6 + i) us' 19 = xs 19 := by rw [upd_ne _ _ (by omega), upd_ne _ _ (by omega)]
  rw [ev, en, ex, ss19] at hr
  have hl := hr.1
  obtain ⟨k1, k2⟩ := own_sets [c0, c1, u, c3, c4, c5, c6, c7, c8, u', c10] (i * 11) hr
  refine ⟨⟨hf.store (j := 19) (by omega) (fun k hk hne hc => absurd (col_box (g := 1) hc hk) hne) (by rw [ev, en, ss19]; exact k1) (by rw [ev]; exact k2), ?_, ev, en, fun j hj => ?_⟩, fun k hk => ?_⟩
  · obtain ⟨f1, f2, f3⟩ := h.x0
    rw [upd_ne _ _ (by omega), upd_ne _ _ (by omega), upd_ne _ _ (by omega), upd_ne _ _ (by omega), upd_ne _ _ (by omega), upd_ne _ _ (by omega), upd_ne _ _ (by omega), f3, tri_ne _ (by omega), tri_ne _ (by omega)]
    exact ⟨f1, f2, rfl⟩
  · rw [upd_same]
    by_cases e : j = i
    · subst e
      rw [lsets_in _ _ _ 2 (by simp) (by omega), lsets_in _ _ _ 9 (by simp) (by omega), upd_same, upd_ne _ _ (by omega), upd_same]
      exact ⟨rfl, rfl⟩
    · rw [lsets_out _ _ _ _ (.inl (by omega)), lsets_out _ _ _ _ (.inl (by omega)), upd_ne _ _ (by omega), upd_ne _ _ (by omega), upd_ne _ _ (by omega), upd_ne _ _ (by omega)]
      exact h3 j (by omega)
  · exact (k1.cellAt (i * 11 + k) (by omega)).trans (lsets_in _ _ _ k hk (by omega))

/-- cells of a row are others; another row goes on -/
theorem BS.over {j : Nat} (h : BS W1 b0 b1 c v n xs W) (hj : j < 18) (hf : Fam W1 v n (upd xs j us) W') : BS W1 b0 b1 c v n (upd xs j us) W' :=
  ⟨hf, by rw [upd_ne _ _ (by omega)]; exact h.x0, by rw [upd_ne _ _ (by omega)]; exact h.x1⟩
theorem BS.more {j : Nat} (h : BS W1 b0 b1 c v n xs W) (hj : j < 9) (hc : c ≤ 3) (hf : Fam W1 (upd v (9 + j) u) (upd n (9 + j) q) (upd xs (9 + j) us) W') : BS W1 b0 b1 c (upd v (9 + j) u) (upd n (9 + j) q) (upd xs (9 + j) us) W' := by
  refine ⟨hf, ?_, ?_⟩
  · rw [upd_ne _ _ (by omega), upd_ne _ _ (by omega), upd_ne _ _ (by omega), tri_ne _ (by omega)]; exact h.x0
  · obtain ⟨f1, f2, f3⟩ := h.x1
    rw [upd_ne _ _ (by omega), upd_ne _ _ (by omega), upd_ne _ _ (by omega)]
    exact ⟨f1, f2, fun k hk => by rw [upd_ne _ _ (by omega), upd_ne _ _ (by omega)]; exact f3 k hk⟩

/-- a box that has just been made, as a row -/
theorem box_own (W : World) (B m s : Nat) (hB : B ≤ W.heap.size) (t : TypeId) (cs : Array Value) (hm : 1 ≤ m) (hm2 : m ≤ maxLen) (hs : cs.size = m * s) : (W.alloc (.cells cs t)).ownsRow B t s (.slice (some ⟨W.heap.size, 0, none⟩) m m) m cs.toList :=
  ⟨by rw [Array.length_toList]; exact hs, .inr ⟨W.heap.size, m, cs, rfl, hB, Bx.new W t _, by omega, hm2, hs, List.take_of_length_le (by rw [Array.length_toList, hs]; exact Nat.le_refl _)⟩⟩

end O
end Go.Proofs.Ytnmkaidpfoglkaa
