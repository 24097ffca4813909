/-
  The law StampOwn's rows: three rows of bytes and three of runs, six that go on from them (of the same colour), and the four arrays that keep them: rows of two colours lie in two blocks.
-/
import Derived.Test.YtgoalmkjmjikmaaZW1
import Derived.OneCell
import Derived.ArgAppend
import Derived.OwnWalk
set_option linter.unusedSimpArgs false
set_option linter.unusedVariables false
namespace Go.Proofs.Ytgoalmkjmjikmaa
open Go.RowKit Go.Lib

namespace O

def upd {α : Type} (f : Nat → α) (i : Nat) (x : α) : Nat → α := fun j => if j = i then x else f j
theorem upd_same {α : Type} (f : Nat → α) (i : Nat) (x : α) : upd f i x i = x := by simp [upd]
theorem upd_ne {α : Type} (f : Nat → α) {i j : Nat} (x : α) (h : j ≠ i) : upd f i x j = f j := by simp [upd, h]

/-- two rows in two blocks -/
def Apart (v u : Value) : Prop := v.ownBlock = none ∨ v.ownBlock ≠ u.ownBlock

theorem Apart.symm {v u : Value} (h : Apart v u) : Apart u v := by
  rcases h with h | h
  · by_cases e : u.ownBlock = none
    · exact .inl e
    · exact .inr (fun e2 => e (e2.trans h))
  · exact .inr (Ne.symm h)

theorem rows_two {W : World} {B B' e e' m m' n n' : Nat} {v v' : Value} {xs xs' : List Value} (h : W.ownsRow B e m v n xs) (h' : W.ownsRow B' e' m' v' n' xs') (hne : e ≠ e') : v.ownBlock = none ∨ v.ownBlock ≠ v'.ownBlock := by
  rcases h.2 with ⟨rfl, _⟩ | ⟨g, cap, cur, rfl, _, hgb, _⟩
  · exact .inl rfl
  · refine .inr fun e1 => ?_
    rcases h'.2 with ⟨rfl, _⟩ | ⟨g', cap', cur', rfl, _, hgb', _⟩
    · simp [Value.ownBlock] at e1
    · obtain rfl : g = g' := by simpa [Value.ownBlock] using e1
      rw [hgb] at hgb'
      simp at hgb'
      exact hne hgb'.2

theorem own_below {W W' : World} {B e m n : Nat} {v : Value} {xs : List Value} (h : W.ownsRow B e m v n xs) (hb : Below W.heap.size W W') : W'.ownsRow B e m v n xs :=
  ⟨h.1, h.2.elim .inl (fun ⟨g, cap, cur, e1, e2, e3, rest⟩ => .inr ⟨g, cap, cur, e1, e2, (hb.block g (Array.getElem?_eq_some_iff.1 e3).1).trans e3, rest⟩)⟩

theorem own_base {W : World} {B B' e m n : Nat} {v : Value} {xs : List Value} (h : W.ownsRow B e m v n xs) (hb : B' ≤ B) : W.ownsRow B' e m v n xs :=
  ⟨h.1, h.2.elim .inl (fun ⟨g, cap, cur, e1, e2, rest⟩ => .inr ⟨g, cap, cur, e1, Nat.le_trans hb e2, rest⟩)⟩

theorem own_formO {W : World} {B e m n : Nat} {v : Value} {xs : List Value} (h : W.ownsRow B e m v n xs) : ∃ a c, v = .slice a n c := by
  rcases h.2 with ⟨rfl, rfl⟩ | ⟨g, cap, cur, rfl, _⟩
  · exact ⟨_, _, rfl⟩
  · exact ⟨_, _, rfl⟩
theorem own_some {W : World} {B e m n : Nat} {v : Value} {xs : List Value} (h : W.ownsRow B e m v n xs) (hn : 0 < n) : ∃ g c, v = .slice (some ⟨g, 0, none⟩) n c := by
  rcases h.2 with ⟨rfl, rfl⟩ | ⟨g, cap, cur, rfl, _⟩
  · omega
  · exact ⟨_, _, rfl⟩

/-- of two rows in one block the shorter one is a beginning, also when the longer one is gone on from in its place -/
theorem own_prefix {W W' : World} {B e s g n m cap cap' : Nat} {xs zs : List Value} {news : List Value} (h : W.ownsRow B e s (.slice (some ⟨g, 0, none⟩) n cap) n xs) (h' : W.ownsRow B e s (.slice (some ⟨g, 0, none⟩) m cap') m zs) (hs : 0 < s)
    (ho : W'.ownsRow B e s (.slice (some ⟨g, 0, none⟩) (m + 1) cap') (m + 1) (zs ++ news)) (hn : n ≤ m) : W'.ownsRow B e s (.slice (some ⟨g, 0, none⟩) n cap) n xs := by
  rcases h.2 with ⟨h0, _⟩ | ⟨g1, c1, cur1, e1, hg1, hb1, hc1, hm1, hs1, ht1⟩
  · cases h0
  rcases h'.2 with ⟨h0, _⟩ | ⟨g2, c2, cur2, e2, hg2, hb2, hc2, hm2, hs2, ht2⟩
  · cases h0
  rcases ho.2 with ⟨h0, _⟩ | ⟨g3, c3, cur3, e3, hg3, hb3, hc3, hm3, hs3, ht3⟩
  · cases h0
  simp only [Value.slice.injEq, Option.some.injEq, Addr.mk.injEq, and_true, true_and] at e1 e2 e3
  obtain ⟨rfl, rfl⟩ := e1
  obtain ⟨rfl, rfl⟩ := e2
  obtain ⟨rfl, rfl⟩ := e3
  rw [hb1] at hb2
  simp at hb2
  subst hb2
  have hcc : cap = cap' := Nat.eq_of_mul_eq_mul_right hs (hs1.symm.trans hs2)
  subst hcc
  refine ⟨h.1, .inr ⟨_, _, cur3, rfl, hg1, hb3, hc1, hm1, hs3, ?_⟩⟩
  have hle : n * s ≤ m * s := Nat.mul_le_mul_right s hn
  have hle2 : n * s ≤ (m + 1) * s := Nat.mul_le_mul_right s (by omega)
  have hzl : n * s ≤ zs.length := by rw [h'.1]; exact hle
  have a1 : xs = zs.take (n * s) := by rw [← ht1, ← ht2, List.take_take, Nat.min_eq_left hle]
  have a2 : cur3.toList.take (n * s) = (zs ++ news).take (n * s) := by rw [← ht3, List.take_take, Nat.min_eq_left hle2]
  rw [a2, a1, List.take_append_of_le_length hzl]

theorem grownBy_trans {W W' W'' : World} {r : Option Nat} (h : W.grownBy W' r) (k : W'.grownBy W'' r) : W.grownBy W'' r :=
  ⟨k.os.trans h.os, k.tape.trans h.tape, k.output.trans h.output, Nat.le_trans h.size k.size, fun q hq hne => (k.block q (Nat.lt_of_lt_of_le hq h.size) hne).trans (h.block q hq hne)⟩


/-- 0 to 2 bytes, 3 to 5 runs, 6 to 8 bytes that go on, 9 to 11 runs that go on, 12 to 15 the arrays of these four (12 of 0, 13 of 6, 14 of 3, 15 of 9) -/
def ee (j : Nat) : Nat := if j < 3 ∨ (6 ≤ j ∧ j < 9) then 5 else if j < 12 then 28 else if j < 14 then 69 else 70
def ss (j : Nat) : Nat := if (3 ≤ j ∧ j < 6) ∨ (9 ≤ j ∧ j < 12) then 3 else 1
def col (j : Nat) : Nat := if j < 6 then j else if j < 12 then j - 6 else j
theorem ee_six {j : Nat} (h : j < 6) : ee (6 + j) = ee j := by
  unfold ee
  by_cases h3 : j < 3
  · rw [if_pos (by omega), if_pos (by omega)]
  · rw [if_neg (by omega), if_pos (by omega), if_neg (by omega), if_pos (by omega)]
theorem ss_six {j : Nat} (h : j < 6) : ss (6 + j) = ss j := by
  unfold ss
  by_cases h3 : j < 3
  · rw [if_neg (by omega), if_neg (by omega)]
  · rw [if_pos (by omega), if_pos (by omega)]
theorem ss_pos (j : Nat) : 0 < ss j := by unfold ss; split <;> omega
theorem col_six {j : Nat} (h : j < 6) : col (6 + j) = col j := by unfold col; rw [if_neg (by omega), if_pos (by omega), if_pos h]; omega
theorem col_same {j k : Nat} (hj : j < 6) (hk : k < 16) (h : col k = col (6 + j)) : k = j ∨ k = 6 + j := by
  rw [col_six hj] at h
  unfold col at h
  rw [if_pos hj] at h
  split at h
  · omega
  · split at h <;> omega
theorem col_box {g k : Nat} (h : col k = col (12 + g)) (hk : k < 16) : k = 12 + g := by
  unfold col at h
  rw [if_neg (show ¬ 12 + g < 6 by omega), if_neg (show ¬ 12 + g < 12 by omega)] at h
  split at h
  · omega
  · split at h <;> omega

structure Fam (W1 : World) (v : Nat → Value) (n : Nat → Nat) (xs : Nat → List Value) (W : World) : Prop where
  own : ∀ j, j < 16 → W.ownsRow W1.heap.size (ee j) (ss j) (v j) (n j) (xs j)
  apart : ∀ j k, j < 16 → k < 16 → col j ≠ col k → Apart (v j) (v k)
  bel : Below W1.heap.size W1 W

variable {W1 W W' : World} {v : Nat → Value} {n : Nat → Nat} {xs : Nat → List Value} {u : Value} {us : List Value} {q : Nat}

theorem Fam.below (h : Fam W1 v n xs W) (hb : Below W.heap.size W W') : Fam W1 v n xs W' :=
  ⟨fun j hj => own_below (h.own j hj) hb, h.apart, h.bel.trans (hb.mono h.bel.size)⟩
theorem Fam.alloc (h : Fam W1 v n xs W) (o : Obj) : Fam W1 v n xs (W.alloc o) :=
  ⟨fun j hj => (h.own j hj).alloc o, h.apart, h.bel.alloc h.bel.size o⟩

theorem Fam.put {j : Nat} (own : ∀ k, k < 16 → k ≠ j → W'.ownsRow W1.heap.size (ee k) (ss k) (v k) (n k) (xs k)) (apart : ∀ j k, j < 16 → k < 16 → col j ≠ col k → Apart (v j) (v k)) (bel : Below W1.heap.size W1 W')
    (ho : W'.ownsRow W1.heap.size (ee j) (ss j) u q us) (far : ∀ k, k < 16 → k ≠ j → col k ≠ col j → Apart (v k) u) : Fam W1 (upd v j u) (upd n j q) (upd xs j us) W' := by
  refine ⟨fun k hk => ?_, fun a b ha hb hne => ?_, bel⟩
  · by_cases e : k = j
    · subst e; simp only [upd_same]; exact ho
    · simp only [upd_ne _ _ e]; exact own k hk e
  · by_cases e1 : a = j
    · by_cases e2 : b = j
      · rw [e1, e2] at hne; exact absurd rfl hne
      · subst e1; rw [upd_same, upd_ne _ _ e2]; exact (far b hb e2 (Ne.symm hne)).symm
    · by_cases e2 : b = j
      · subst e2; rw [upd_same, upd_ne _ _ e1]; exact far a ha e1 hne
      · rw [upd_ne _ _ e1, upd_ne _ _ e2]; exact apart a b ha hb hne

theorem far_new {e s : Nat} (h : Fam W1 v n xs W) (ho : W'.ownsRow W.heap.size e s u q us) : ∀ k, k < 16 → Apart (v k) u := fun k hk => by
  by_cases e : (v k).ownBlock = none
  · exact .inl e
  · refine .inr fun e2 => ?_
    obtain ⟨g, hg⟩ := Option.ne_none_iff_exists'.1 e
    have l1 := ((h.own k hk).lt g hg).2
    have l2 := (ho.lt g (e2 ▸ hg)).1
    omega

/-- a new row -/
theorem Fam.fresh {j : Nat} (h : Fam W1 v n xs W) (hb : Below W.heap.size W W') (ho : W'.ownsRow W.heap.size (ee j) (ss j) u q us) : Fam W1 (upd v j u) (upd n j q) (upd xs j us) W' :=
  have h' := h.below hb
  Fam.put (fun k hk _ => h'.own k hk) h'.apart h'.bel (own_base ho h.bel.size) (fun k hk _ _ => far_new h ho k hk)

/-- a row is written into, no other one lies in its block -/
theorem Fam.store {j : Nat} (h : Fam W1 v n xs W) (hj : j < 16) (hs : ∀ k, k < 16 → k ≠ j → col k = col j → (v k).ownBlock = none) (ho : W'.ownsRow W1.heap.size (ee j) (ss j) (v j) (n j) us) (hg : W.grownBy W' (v j).ownBlock) : Fam W1 v n (upd xs j us) W' := by
  refine ⟨fun k hk => ?_, h.apart, h.bel.grown hg h.bel.size (fun k e => ((h.own j hj).lt k e).1)⟩
  by_cases e : k = j
  · subst e; rw [upd_same]; exact ho
  · rw [upd_ne _ _ e]
    by_cases ec : col k = col j
    · exact (h.own k hk).kept hg (.inl (hs k hk e ec))
    · exact (h.own k hk).kept hg (h.apart k j hk hj ec)

/-- the row that is gone on from -/
theorem Fam.again {j : Nat} (h : Fam W1 v n xs W) (hj : j < 6) : Fam W1 (upd v (6 + j) (v j)) (upd n (6 + j) (n j)) (upd xs (6 + j) (xs j)) W :=
  Fam.put (fun k hk _ => h.own k hk) h.apart h.bel (by rw [ee_six hj, ss_six hj]; exact h.own j (by omega)) (fun k hk _ hc => h.apart k j hk (by omega) (by rw [col_six hj] at hc; exact hc))

/-- it goes on in its place -/
theorem Fam.fits {j g cap : Nat} {news : List Value} (h : Fam W1 v n xs W) (hj : j < 6) (hn : n j ≤ n (6 + j)) (hv : v (6 + j) = .slice (some ⟨g, 0, none⟩) (n (6 + j)) cap)
    (ho : W'.ownsRow W1.heap.size (ee (6 + j)) (ss (6 + j)) (.slice (some ⟨g, 0, none⟩) (n (6 + j) + 1) cap) (n (6 + j) + 1) (xs (6 + j) ++ news)) (hg : W.grownBy W' (some g)) :
    Fam W1 (upd v (6 + j) (.slice (some ⟨g, 0, none⟩) (n (6 + j) + 1) cap)) (upd n (6 + j) (n (6 + j) + 1)) (upd xs (6 + j) (xs (6 + j) ++ news)) W' := by
  have hown := h.own (6 + j) (by omega)
  rw [hv] at hown
  have hob : (v (6 + j)).ownBlock = some g := by rw [hv]; rfl
  have hub : (Value.slice (some ⟨g, 0, none⟩) (n (6 + j) + 1) cap).ownBlock = (v (6 + j)).ownBlock := by rw [hob]; rfl
  refine Fam.put (fun k hk hne => ?_) h.apart (h.bel.grown hg h.bel.size (fun k e => by cases e; exact (hown.lt g rfl).1)) ho (fun k hk _ hc => by rw [Apart, hub]; exact h.apart k (6 + j) hk (by omega) hc)
  by_cases ec : col k = col (6 + j)
  · have hkj : k = j := (col_same hj hk ec).resolve_right hne
    subst hkj
    by_cases eb : (v k).ownBlock = some g
    · have hj0 := h.own k (by omega)
      rcases hj0.2 with ⟨e0, _⟩ | ⟨g1, c1, cur1, e1, _⟩
      · rw [e0] at eb; cases eb
      · rw [e1] at eb hj0
        obtain rfl : g1 = g := by simpa [Value.ownBlock] using eb
        rw [ee_six hj, ss_six hj] at ho hown
        have := own_prefix hj0 hown (ss_pos k) ho hn
        rw [e1]
        exact this
    · exact (h.own k hk).kept hg (.inr eb)
  · exact (h.own k hk).kept hg (by have := h.apart k (6 + j) hk (by omega) ec; rw [Apart, hob] at this; exact this)

/-- it goes on elsewhere -/
theorem Fam.grows {j : Nat} (h : Fam W1 v n xs W) (ho : W'.ownsRow W.heap.size (ee j) (ss j) u q us) (hg : W.grownBy W' none) : Fam W1 (upd v j u) (upd n j q) (upd xs j us) W' :=
  Fam.put (fun k hk _ => (h.own k hk).kept hg (by
    by_cases e : (v k).ownBlock = none
    · exact .inl e
    · exact .inr e)) h.apart (h.bel.grown hg h.bel.size (fun k e => by cases e)) (own_base ho h.bel.size) (fun k hk _ _ => far_new h ho k hk)

/-- the arrays -/
def tri (v : Nat → Value) (o : Nat) : List Value := [v o, v (o + 1), v (o + 2)]
def oo (g : Nat) : Nat := if g = 0 then 0 else if g = 1 then 6 else if g = 2 then 3 else 9
theorem oo_lt {g : Nat} : oo g ≤ 9 := by unfold oo; split; omega; split; omega; split <;> omega
theorem oo_far {g g' i : Nat} (hg : g < 4) (hg' : g' < 4) (hi : i < 3) (hne : g' ≠ g) : ∀ k, k < 3 → oo g' + k ≠ oo g + i := by
  intro k hk
  unfold oo
  repeat' split
  all_goals omega
theorem tri_set {i : Nat} (hi : i < 3) (v : Nat → Value) (o : Nat) (u : Value) : (tri v o).set i u = tri (upd v (o + i) u) o := by
  match i, hi with
  | 0, _ => simp [tri, upd]
  | 1, _ => simp [tri, upd]
  | 2, _ => simp [tri, upd]
theorem tri_ne {v : Nat → Value} {o j : Nat} (u : Value) (h : ∀ k, k < 3 → o + k ≠ j) : tri (upd v j u) o = tri v o := by
  unfold tri
  rw [upd_ne _ _ (by have := h 0 (by omega); omega), upd_ne _ _ (h 1 (by omega)), upd_ne _ _ (h 2 (by omega))]
theorem tri_get {i : Nat} (hi : i < 3) (v : Nat → Value) (o : Nat) : (tri v o)[i]? = some (v (o + i)) := by
  match i, hi with
  | 0, _ => rfl
  | 1, _ => rfl
  | 2, _ => rfl

structure BS (W1 : World) (bk : Nat → Nat) (v : Nat → Value) (n : Nat → Nat) (xs : Nat → List Value) (W : World) : Prop where
  fm : Fam W1 v n xs W
  bx : ∀ g, g < 4 → v (12 + g) = .slice (some ⟨bk g, 0, none⟩) 3 3 ∧ n (12 + g) = 3 ∧ xs (12 + g) = tri v (oo g)

variable {bk : Nat → Nat}

theorem BS.below (h : BS W1 bk v n xs W) (hb : Below W.heap.size W W') : BS W1 bk v n xs W' := ⟨h.fm.below hb, h.bx⟩
theorem BS.alloc (h : BS W1 bk v n xs W) (o : Obj) : BS W1 bk v n xs (W.alloc o) := ⟨h.fm.alloc o, h.bx⟩

theorem ss_box (g : Nat) : ss (12 + g) = 1 := by unfold ss; rw [if_neg (by omega)]
theorem BS.get (h : BS W1 bk v n xs W) {g i : Nat} (hg : g < 4) (hi : i < 3) : W.cell? ⟨bk g, i, none⟩ = some (v (oo g + i)) ∧ W.frozen? ⟨bk g, i, none⟩ = false ∧ bk g < W.heap.size := by
  obtain ⟨h1, h2, h3⟩ := h.bx g hg
  have ho := h.fm.own (12 + g) (by omega)
  rw [h1, h2, h3, ss_box] at ho
  exact ⟨(ho.cellAt i (by omega)).trans (tri_get hi _ _), ho.frozenAt i, (ho.lt _ rfl).2⟩

/-- a row of an array is another one -/
theorem BS.set (h : BS W1 bk v n xs W) {g i : Nat} (hg : g < 4) (hi : i < 3) (hf : Fam W1 (upd v (oo g + i) u) (upd n (oo g + i) q) (upd xs (oo g + i) us) W') :
    BS W1 bk (upd v (oo g + i) u) (upd n (oo g + i) q) (upd (upd xs (oo g + i) us) (12 + g) (tri (upd v (oo g + i) u) (oo g))) (W'.setCell ⟨bk g, i, none⟩ u) := by
  have hlt := @oo_lt g
  have ne : ∀ g', 12 + g' ≠ oo g + i := fun g' => by omega
  obtain ⟨h1, h2, h3⟩ := h.bx g hg
  have ho := hf.own (12 + g) (by omega)
  have ev : upd v (oo g + i) u (12 + g) = .slice (some ⟨bk g, 0, none⟩) 3 3 := by rw [upd_ne _ _ (ne g)]; exact h1
  rw [ev, upd_ne _ _ (ne g), upd_ne _ _ (ne g), h2, h3] at ho
  obtain ⟨k1, k2⟩ := ho.stored i u
  rw [tri_set hi] at k1
  refine ⟨hf.store (j := 12 + g) (by omega) (fun k hk hne hc => absurd (col_box hc hk) hne) (by rw [ev, upd_ne _ _ (ne g), h2]; exact k1) (by rw [ev]; exact k2), fun g' hg' => ?_⟩
  obtain ⟨f1, f2, f3⟩ := h.bx g' hg'
  rw [upd_ne _ _ (ne g'), upd_ne _ _ (ne g')]
  refine ⟨f1, f2, ?_⟩
  by_cases e : g' = g
  · subst e; rw [upd_same]
  · rw [upd_ne _ _ (by omega), upd_ne _ _ (ne g'), f3, tri_ne _ (oo_far hg hg' hi e)]

/-- where it is put -/
theorem BS.slot (h : BS W1 bk v n xs W) {g i : Nat} (hg : g < 4) (hi : i < 3) (hf : Fam W1 (upd v (oo g + i) u) (upd n (oo g + i) q) (upd xs (oo g + i) us) W') :
    W'.cell? ⟨bk g, i, none⟩ = some (v (oo g + i)) ∧ W'.frozen? ⟨bk g, i, none⟩ = false ∧ bk g < W'.heap.size := by
  have hlt := @oo_lt g
  have ne : 12 + g ≠ oo g + i := by omega
  obtain ⟨h1, h2, h3⟩ := h.bx g hg
  have ho := hf.own (12 + g) (by omega)
  rw [upd_ne _ _ ne, upd_ne _ _ ne, upd_ne _ _ ne, h1, h2, h3, ss_box] at ho
  exact ⟨(ho.cellAt i (by omega)).trans (tri_get hi _ _), ho.frozenAt i, (ho.lt _ rfl).2⟩

/-- a row's cells are others -/
theorem BS.over {j : Nat} (h : BS W1 bk v n xs W) (hj : j < 12) (hf : Fam W1 v n (upd xs j us) W') : BS W1 bk v n (upd xs j us) W' :=
  ⟨hf, fun g hg => by rw [upd_ne _ _ (by omega)]; exact h.bx g hg⟩

theorem Apart.none (u : Value) : Apart (.slice none 0 0) u := .inl rfl

/-- at first: four arrays of nothing -/
theorem box_own (W : World) (B : Nat) (hB : B ≤ W.heap.size) (t : TypeId) : (W.alloc (.cells #[.slice none 0 0, .slice none 0 0, .slice none 0 0] t)).ownsRow B t 1 (.slice (some ⟨W.heap.size, 0, none⟩) 3 3) 3 [.slice none 0 0, .slice none 0 0, .slice none 0 0] :=
  ⟨rfl, .inr ⟨W.heap.size, 3, #[.slice none 0 0, .slice none 0 0, .slice none 0 0], rfl, hB, Bx.new W t _, by omega, by unfold maxLen; omega, rfl, rfl⟩⟩

end O
end Go.Proofs.Ytgoalmkjmjikmaa
