/-
  The law OpOwn's rows: made (M), written over (B), gone on from (P, Q).
-/
import Derived.Test.YtnmkaidpfoglkaaZFA8
set_option linter.unusedSimpArgs false
set_option linter.unusedVariables false
namespace Go.Proofs.Ytnmkaidpfoglkaa
open Go.RowKit Go.Lib

namespace O

variable {W1 W W' : World} {b0 b1 c N D G i k k1 k2 k3 : Nat} {fl : Bool} {v : Nat → Value} {n : Nat → Nat} {xs : Nat → List Value} {u u' : Value} {us us' : List Value} {q : Nat}

def bm (a : Int) : Value := .int .u8 a
def rm (a : Int) : Value := .int .i64 a
/-- the first k of bytes, of Dots, of runs, bear a mark -/
def Fb (ys : List Value) (k : Nat) (a : Int) : Prop := ∀ q, q < k → ys[q]? = some (bm a)
def Fd (ys : List Value) (k : Nat) (a : Int) : Prop := ∀ q, q < k → ys[q * 2]? = some (rm a) ∧ ys[q * 2 + 1]? = some (rm a)
def Fr (ys : List Value) (k : Nat) (a : Int) : Prop := ∀ q, q < k → ys[q * 3 + 2]? = some (rm a)
theorem Fb.zero (ys : List Value) (a : Int) : Fb ys 0 a := fun q h => by omega
theorem Fd.zero (ys : List Value) (a : Int) : Fd ys 0 a := fun q h => by omega
theorem Fr.zero (ys : List Value) (a : Int) : Fr ys 0 a := fun q h => by omega
theorem Fb.set {ys : List Value} {k : Nat} {a : Int} (h : Fb ys k a) (hl : k < ys.length) : Fb (ys.set k (bm a)) (k + 1) a := fun q hq => by
  by_cases e : q = k
  · subst e; exact List.getElem?_set_self hl
  · rw [List.getElem?_set_ne (by omega)]; exact h q (by omega)
theorem Fd.set {ys : List Value} {k : Nat} {a : Int} (h : Fd ys k a) (hl : k * 2 + 1 < ys.length) : Fd ((ys.set (k * 2) (rm a)).set (k * 2 + 1) (rm a)) (k + 1) a := fun q hq => by
  by_cases e : q = k
  · subst e
    refine ⟨?_, List.getElem?_set_self (by rw [List.length_set]; exact hl)⟩
    rw [List.getElem?_set_ne (by omega)]; exact List.getElem?_set_self (by omega)
  · rw [List.getElem?_set_ne (by omega), List.getElem?_set_ne (by omega), List.getElem?_set_ne (by omega), List.getElem?_set_ne (by omega)]; exact h q (by omega)
theorem Fr.set {ys : List Value} {k : Nat} {a : Int} (h : Fr ys k a) (hl : k * 3 + 2 < ys.length) (x y : Value) : Fr (((ys.set (k * 3) x).set (k * 3 + 1) y).set (k * 3 + 2) (rm a)) (k + 1) a := fun q hq => by
  by_cases e : q = k
  · subst e; exact List.getElem?_set_self (by rw [List.length_set, List.length_set]; exact hl)
  · rw [List.getElem?_set_ne (by omega), List.getElem?_set_ne (by omega), List.getElem?_set_ne (by omega)]; exact h q (by omega)

theorem ee_b {i : Nat} (hi : i < 3) : ee i = 5 ∧ ss i = 1 := by unfold ee ss eb sb; rw [col_lo (by omega), if_pos (by omega), if_pos (by omega)]; exact ⟨rfl, rfl⟩
theorem ee_d {i : Nat} (hi : i < 3) : ee (3 + i) = 23 ∧ ss (3 + i) = 2 := by unfold ee ss eb sb; rw [col_lo (by omega), if_neg (by omega), if_pos (by omega), if_neg (by omega), if_pos (by omega)]; exact ⟨rfl, rfl⟩
theorem ee_r {i : Nat} (hi : i < 3) : ee (6 + i) = 36 ∧ ss (6 + i) = 3 := by unfold ee ss eb sb; rw [col_lo (by omega), if_neg (by omega), if_neg (by omega), if_pos (by omega), if_neg (by omega), if_neg (by omega), if_pos (by omega)]; exact ⟨rfl, rfl⟩
theorem ee_b9 {i : Nat} (hi : i < 3) : ee (9 + i) = 5 ∧ ss (9 + i) = 1 := by rw [ee_nine (by omega), ss_nine (by omega)]; exact ee_b hi
theorem ee_d9 {i : Nat} (hi : i < 3) : ee (12 + i) = 23 ∧ ss (12 + i) = 2 := by rw [show 12 + i = 9 + (3 + i) by omega, ee_nine (by omega), ss_nine (by omega)]; exact ee_d hi
theorem ee_r9 {i : Nat} (hi : i < 3) : ee (15 + i) = 36 ∧ ss (15 + i) = 3 := by rw [show 15 + i = 9 + (6 + i) by omega, ee_nine (by omega), ss_nine (by omega)]; exact ee_r hi

structure M (W1 : World) (b0 b1 N D G c : Nat) (fl : Bool) (v : Nat → Value) (n : Nat → Nat) (xs : Nat → List Value) (W : World) : Prop where
  bs : BS W1 b0 b1 c v n xs W
  nn : ∀ j, j < c → n j = N ∧ n (3 + j) = D ∧ n (6 + j) = G
  go : ∀ j, j < 9 → v (9 + j) = .slice none 0 0
  r1 : fl = true → n c = N
theorem M.below (h : M W1 b0 b1 N D G c fl v n xs W) (hb : Below W.heap.size W W') : M W1 b0 b1 N D G c fl v n xs W' := ⟨h.bs.below hb, h.nn, h.go, h.r1⟩
theorem M.rows (h : M W1 b0 b1 N D G i false v n xs W) (hi : i < 3) (hb : Below W.heap.size W W') (ho : W'.ownsRow W.heap.size 5 1 u N us) :
    ∃ v' n' xs', M W1 b0 b1 N D G i true v' n' xs' (W'.setCell ⟨b0, i, none⟩ u) := by
  have hs := h.bs.set0 hi (h.bs.fm.fresh (j := i) hb (by rw [(ee_b hi).1, (ee_b hi).2]; exact ho))
  refine ⟨_, _, _, ⟨hs, fun j hj => ?_, fun j hj => ?_, fun _ => ?_⟩⟩
  · rw [upd_ne _ _ (by omega), upd_ne _ _ (by omega), upd_ne _ _ (by omega)]; exact h.nn j hj
  · rw [upd_ne _ _ (by omega)]; exact h.go j hj
  · rw [upd_same]
theorem M.ops {c0 c1 c3 c4 c5 c6 c7 c8 c10 : Value} (h : M W1 b0 b1 N D G i true v n xs W) (hi : i < 3) (hb : Below W.heap.size W W') (ho : W'.ownsRow W.heap.size 23 2 u D us) (ho' : W'.ownsRow W.heap.size 36 3 u' G us') (ha : ∀ k, u.ownBlock = some k → u'.ownBlock ≠ some k) :
    ∃ v' n' xs', M W1 b0 b1 N D G (i + 1) false v' n' xs' (sets W' b1 (i * 11) [c0, c1, u, c3, c4, c5, c6, c7, c8, u', c10]) ∧
    (∀ k, k < 11 → (sets W' b1 (i * 11) [c0, c1, u, c3, c4, c5, c6, c7, c8, u', c10]).cell? ⟨b1, i * 11 + k, none⟩ = [c0, c1, u, c3, c4, c5, c6, c7, c8, u', c10][k]?) ∧
    (sets W' b1 (i * 11) [c0, c1, u, c3, c4, c5, c6, c7, c8, u', c10]).ownsRow W1.heap.size 23 2 u D us ∧ (sets W' b1 (i * 11) [c0, c1, u, c3, c4, c5, c6, c7, c8, u', c10]).ownsRow W1.heap.size 36 3 u' G us' := by
  obtain ⟨hs, hc⟩ := h.bs.set1 (c0 := c0) (c1 := c1) (c3 := c3) (c4 := c4) (c5 := c5) (c6 := c6) (c7 := c7) (c8 := c8) (c10 := c10) hi hb ho ho' ha
  have r1 := hs.fm.own (3 + i) (by omega)
  have r2 := hs.fm.own (6 + i) (by omega)
  rw [upd_ne _ _ (by omega), upd_same, upd_ne _ _ (by omega), upd_same, upd_ne _ _ (by omega), upd_ne _ _ (by omega), upd_same, (ee_d hi).1, (ee_d hi).2] at r1
  rw [upd_same, upd_same, upd_ne _ _ (by omega), upd_same, (ee_r hi).1, (ee_r hi).2] at r2
  refine ⟨_, _, _, ⟨hs, fun j hj => ?_, fun j hj => ?_, fun e => (by cases e)⟩, hc, r1, r2⟩
  · by_cases e : j = i
    · subst e
      rw [upd_ne _ _ (by omega), upd_ne _ _ (by omega), upd_ne _ _ (by omega), upd_same, upd_same]
      exact ⟨h.r1 rfl, rfl, rfl⟩
    · rw [upd_ne _ _ (by omega), upd_ne _ _ (by omega), upd_ne _ _ (by omega), upd_ne _ _ (by omega), upd_ne _ _ (by omega), upd_ne _ _ (by omega)]; exact h.nn j (by omega)
  · rw [upd_ne _ _ (by omega), upd_ne _ _ (by omega)]; exact h.go j hj

structure B (W1 : World) (b0 b1 N D G i k1 k2 k3 : Nat) (v : Nat → Value) (n : Nat → Nat) (xs : Nat → List Value) (W : World) : Prop where
  bs : BS W1 b0 b1 3 v n xs W
  nn : ∀ j, j < 3 → n j = N ∧ n (3 + j) = D ∧ n (6 + j) = G
  go : ∀ j, j < 9 → v (9 + j) = .slice none 0 0
  dn : ∀ j, j < i → Fb (xs j) N ((j : Int) + 1) ∧ Fd (xs (3 + j)) D (j : Int) ∧ Fr (xs (6 + j)) G (100 + (j : Int))
  f1 : Fb (xs i) k1 ((i : Int) + 1)
  f2 : Fd (xs (3 + i)) k2 (i : Int)
  f3 : Fr (xs (6 + i)) k3 (100 + (i : Int))
theorem B.start (h : M W1 b0 b1 N D G 3 fl v n xs W) : B W1 b0 b1 N D G 0 0 0 0 v n xs W := ⟨h.bs, h.nn, h.go, fun j hj => (by omega), Fb.zero _ _, Fd.zero _ _, Fr.zero _ _⟩
theorem B.next (h : B W1 b0 b1 N D G i N D G v n xs W) : B W1 b0 b1 N D G (i + 1) 0 0 0 v n xs W :=
  ⟨h.bs, h.nn, h.go, fun j hj => (by
    by_cases e : j = i
    · subst e; exact ⟨h.f1, h.f2, h.f3⟩
    · exact h.dn j (by omega)), Fb.zero _ _, Fd.zero _ _, Fr.zero _ _⟩
theorem B.alone (h : B W1 b0 b1 N D G i k1 k2 k3 v n xs W) {j : Nat} (hj : j < 9) : ∀ k, k < 20 → k ≠ j → col k = col j → (v k).ownBlock = none := fun k hk hne hc => by
  rcases col_same hj hk hc with h6 | h6
  · exact absurd h6 hne
  · rw [h6, h.go j hj]; rfl
theorem B.byte {g c : Nat} (h : B W1 b0 b1 N D G i k 0 0 v n xs W) (hi : i < 3) (hk : k < N) (hv : v i = .slice (some ⟨g, 0, none⟩) N c) :
    B W1 b0 b1 N D G i (k + 1) 0 0 v n (upd xs i ((xs i).set k (bm ((i : Int) + 1)))) (W.setCell ⟨g, k, none⟩ (bm ((i : Int) + 1))) := by
  have ho := h.bs.fm.own i (by omega)
  have hl := ho.1
  rw [(h.nn i hi).1, (ee_b hi).2, Nat.mul_one] at hl
  rw [hv, (h.nn i hi).1] at ho
  obtain ⟨o1, o2⟩ := ho.stored k (bm ((i : Int) + 1))
  refine ⟨h.bs.over (by omega) (h.bs.fm.store (by omega) (h.alone (by omega)) (by rw [hv, (h.nn i hi).1]; exact o1) (by rw [hv]; exact o2)), h.nn, h.go, fun j hj => ?_, ?_, ?_, ?_⟩
  · rw [upd_ne _ _ (by omega), upd_ne _ _ (by omega), upd_ne _ _ (by omega)]; exact h.dn j hj
  · rw [upd_same]; exact h.f1.set (by omega)
  · rw [upd_ne _ _ (by omega)]; exact h.f2
  · rw [upd_ne _ _ (by omega)]; exact h.f3
theorem B.dot {g c : Nat} (h : B W1 b0 b1 N D G i N k 0 v n xs W) (hi : i < 3) (hk : k < D) (hv : v (3 + i) = .slice (some ⟨g, 0, none⟩) D c) :
    B W1 b0 b1 N D G i N (k + 1) 0 v n (upd xs (3 + i) (((xs (3 + i)).set (k * 2) (rm (i : Int))).set (k * 2 + 1) (rm (i : Int)))) ((W.setCell ⟨g, k * 2, none⟩ (rm (i : Int))).setCell ⟨g, k * 2 + 1, none⟩ (rm (i : Int))) := by
  have ho := h.bs.fm.own (3 + i) (by omega)
  have hl := ho.1
  rw [(h.nn i hi).2.1, (ee_d hi).2] at hl
  rw [hv, (h.nn i hi).2.1] at ho
  obtain ⟨o1, g1⟩ := ho.stored (k * 2) (rm (i : Int))
  obtain ⟨o2, g2⟩ := o1.stored (k * 2 + 1) (rm (i : Int))
  refine ⟨h.bs.over (by omega) (h.bs.fm.store (by omega) (h.alone (by omega)) (by rw [hv, (h.nn i hi).2.1]; exact o2) (by rw [hv]; exact grownBy_trans g1 g2)), h.nn, h.go, fun j hj => ?_, ?_, ?_, ?_⟩
  · rw [upd_ne _ _ (by omega), upd_ne _ _ (by omega), upd_ne _ _ (by omega)]; exact h.dn j hj
  · rw [upd_ne _ _ (by omega)]; exact h.f1
  · rw [upd_same]; exact h.f2.set (by omega)
  · rw [upd_ne _ _ (by omega)]; exact h.f3
theorem B.run {g c : Nat} (h : B W1 b0 b1 N D G i N D k v n xs W) (hi : i < 3) (hk : k < G) (hv : v (6 + i) = .slice (some ⟨g, 0, none⟩) G c) (x y : Value) :
    B W1 b0 b1 N D G i N D (k + 1) v n (upd xs (6 + i) ((((xs (6 + i)).set (k * 3) x).set (k * 3 + 1) y).set (k * 3 + 2) (rm (100 + (i : Int))))) (((W.setCell ⟨g, k * 3, none⟩ x).setCell ⟨g, k * 3 + 1, none⟩ y).setCell ⟨g, k * 3 + 2, none⟩ (rm (100 + (i : Int)))) := by
  have ho := h.bs.fm.own (6 + i) (by omega)
  have hl := ho.1
  rw [(h.nn i hi).2.2, (ee_r hi).2] at hl
  rw [hv, (h.nn i hi).2.2] at ho
  obtain ⟨o1, g1⟩ := ho.stored (k * 3) x
  obtain ⟨o2, g2⟩ := o1.stored (k * 3 + 1) y
  obtain ⟨o3, g3⟩ := o2.stored (k * 3 + 2) (rm (100 + (i : Int)))
  refine ⟨h.bs.over (by omega) (h.bs.fm.store (by omega) (h.alone (by omega)) (by rw [hv, (h.nn i hi).2.2]; exact o3) (by rw [hv]; exact grownBy_trans (grownBy_trans g1 g2) g3)), h.nn, h.go, fun j hj => ?_, ?_, ?_, ?_⟩
  · rw [upd_ne _ _ (by omega), upd_ne _ _ (by omega), upd_ne _ _ (by omega)]; exact h.dn j hj
  · rw [upd_ne _ _ (by omega)]; exact h.f1
  · rw [upd_ne _ _ (by omega)]; exact h.f2
  · rw [upd_same]; exact h.f3.set (by omega) x y

structure P (W1 : World) (b0 b1 N D G : Nat) (v : Nat → Value) (n : Nat → Nat) (xs : Nat → List Value) (W : World) : Prop where
  bs : BS W1 b0 b1 3 v n xs W
  nn : ∀ j, j < 3 → n j = N ∧ n (3 + j) = D ∧ n (6 + j) = G
  dn : ∀ j, j < 3 → Fb (xs j) N ((j : Int) + 1) ∧ Fd (xs (3 + j)) D (j : Int) ∧ Fr (xs (6 + j)) G (100 + (j : Int))
theorem P.start (h : B W1 b0 b1 N D G 3 k1 k2 k3 v n xs W) : P W1 b0 b1 N D G v n xs W := ⟨h.bs, h.nn, h.dn⟩
theorem P.below (h : P W1 b0 b1 N D G v n xs W) (hb : Below W.heap.size W W') : P W1 b0 b1 N D G v n xs W' := ⟨h.bs.below hb, h.nn, h.dn⟩
theorem P.more {j : Nat} (h : P W1 b0 b1 N D G v n xs W) (hj : j < 9) (hf : Fam W1 (upd v (9 + j) u) (upd n (9 + j) q) (upd xs (9 + j) us) W') : P W1 b0 b1 N D G (upd v (9 + j) u) (upd n (9 + j) q) (upd xs (9 + j) us) W' := by
  refine ⟨h.bs.more hj (by omega) hf, fun k hk => ?_, fun k hk => ?_⟩
  · rw [upd_ne _ _ (by omega), upd_ne _ _ (by omega), upd_ne _ _ (by omega)]; exact h.nn k hk
  · rw [upd_ne _ _ (by omega), upd_ne _ _ (by omega), upd_ne _ _ (by omega)]; exact h.dn k hk

structure Q (W1 : World) (b0 b1 N D G i k1 k2 k3 : Nat) (gv dv rv : Value) (W : World) : Prop where
  ex : ∃ v n xs, P W1 b0 b1 N D G v n xs W ∧ (v (9 + i) = gv ∧ n (9 + i) = N + k1) ∧ (v (12 + i) = dv ∧ n (12 + i) = D + k2) ∧ v (15 + i) = rv ∧ n (15 + i) = G + k3
theorem Q.alloc {gv dv rv : Value} (h : Q W1 b0 b1 N D G i k1 k2 k3 gv dv rv W) (o : Obj) : Q W1 b0 b1 N D G i k1 k2 k3 gv dv rv (W.alloc o) := by
  obtain ⟨v, n, xs, hp, hh⟩ := h.ex
  exact ⟨⟨v, n, xs, ⟨hp.bs.alloc o, hp.nn, hp.dn⟩, hh⟩⟩
theorem Q.begin (h : P W1 b0 b1 N D G v n xs W) (hi : i < 3) : Q W1 b0 b1 N D G i 0 0 0 (v i) (v (3 + i)) (v (6 + i)) W := by
  have h1 := h.more (j := i) (by omega) (h.bs.fm.again (by omega))
  have h2 := h1.more (j := 3 + i) (by omega) (h1.bs.fm.again (by omega))
  have h3 := h2.more (j := 6 + i) (by omega) (h2.bs.fm.again (by omega))
  refine ⟨⟨_, _, _, h3, ⟨?_, ?_⟩, ⟨?_, ?_⟩, ?_, ?_⟩⟩
  · rw [upd_ne _ _ (by omega), upd_ne _ _ (by omega), upd_same]
  · rw [upd_ne _ _ (by omega), upd_ne _ _ (by omega), upd_same]; exact (h.nn i hi).1
  · rw [upd_ne _ _ (by omega), show 9 + (3 + i) = 12 + i by omega, upd_same, upd_ne _ _ (by omega)]
  · rw [upd_ne _ _ (by omega), show 9 + (3 + i) = 12 + i by omega, upd_same, upd_ne _ _ (by omega)]; exact (h.nn i hi).2.1
  · rw [show 9 + (6 + i) = 15 + i by omega, upd_same, upd_ne _ _ (by omega), upd_ne _ _ (by omega)]
  · rw [show 9 + (6 + i) = 15 + i by omega, upd_same, upd_ne _ _ (by omega), upd_ne _ _ (by omega)]; exact (h.nn i hi).2.2

/-- the rows that go on, as they lie -/
theorem Q.rowB {gv dv rv : Value} (h : Q W1 b0 b1 N D G i k1 k2 k3 gv dv rv W) (hi : i < 3) : ∃ ys, W.ownsRow W1.heap.size 5 1 gv (N + k1) ys ∧
    (∀ (W' : World) (g cap : Nat) (news : List Value), gv = .slice (some ⟨g, 0, none⟩) (N + k1) cap → W'.ownsRow W1.heap.size 5 1 (.slice (some ⟨g, 0, none⟩) (N + k1 + 1) cap) (N + k1 + 1) (ys ++ news) → W.grownBy W' (some g) → Q W1 b0 b1 N D G i (k1 + 1) k2 k3 (.slice (some ⟨g, 0, none⟩) (N + k1 + 1) cap) dv rv W') ∧
    (∀ (W' : World) (u : Value) (us : List Value), W'.ownsRow W.heap.size 5 1 u (N + k1 + 1) us → W.grownBy W' none → Q W1 b0 b1 N D G i (k1 + 1) k2 k3 u dv rv W') := by
  obtain ⟨v, n, xs, hp, ⟨v1, n1⟩, ⟨v2, n2⟩, v3, n3⟩ := h.ex
  refine ⟨xs (9 + i), ?_, fun W' g cap news hv ho hg => ?_, fun W' u us ho hg => ?_⟩
  · have hr := hp.bs.fm.own (9 + i) (by omega)
    rw [v1, n1, (ee_b9 hi).1, (ee_b9 hi).2] at hr
    exact hr
  · have hf := hp.bs.fm.fits (j := i) (g := g) (cap := cap) (news := news) (by omega) (by rw [n1, (hp.nn i hi).1]; omega) (by rw [n1, v1]; exact hv) (by rw [n1, (ee_b9 hi).1, (ee_b9 hi).2]; exact ho) hg
    rw [n1] at hf
    refine ⟨⟨_, _, _, hp.more (by omega) hf, ⟨upd_same _ _ _, upd_same _ _ _⟩, ⟨?_, ?_⟩, ?_, ?_⟩⟩
    · rw [upd_ne _ _ (by omega)]; exact v2
    · rw [upd_ne _ _ (by omega)]; exact n2
    · rw [upd_ne _ _ (by omega)]; exact v3
    · rw [upd_ne _ _ (by omega)]; exact n3
  · have hf := hp.bs.fm.grows (j := 9 + i) (by rw [(ee_b9 hi).1, (ee_b9 hi).2]; exact ho) hg
    refine ⟨⟨_, _, _, hp.more (by omega) hf, ⟨upd_same _ _ _, upd_same _ _ _⟩, ⟨?_, ?_⟩, ?_, ?_⟩⟩
    · rw [upd_ne _ _ (by omega)]; exact v2
    · rw [upd_ne _ _ (by omega)]; exact n2
    · rw [upd_ne _ _ (by omega)]; exact v3
    · rw [upd_ne _ _ (by omega)]; exact n3
theorem Q.rowD {gv dv rv : Value} (h : Q W1 b0 b1 N D G i k1 k2 k3 gv dv rv W) (hi : i < 3) : ∃ ys, W.ownsRow W1.heap.size 23 2 dv (D + k2) ys ∧
    (∀ (W' : World) (g cap : Nat) (news : List Value), dv = .slice (some ⟨g, 0, none⟩) (D + k2) cap → W'.ownsRow W1.heap.size 23 2 (.slice (some ⟨g, 0, none⟩) (D + k2 + 1) cap) (D + k2 + 1) (ys ++ news) → W.grownBy W' (some g) → Q W1 b0 b1 N D G i k1 (k2 + 1) k3 gv (.slice (some ⟨g, 0, none⟩) (D + k2 + 1) cap) rv W') ∧
    (∀ (W' : World) (u : Value) (us : List Value), W'.ownsRow W.heap.size 23 2 u (D + k2 + 1) us → W.grownBy W' none → Q W1 b0 b1 N D G i k1 (k2 + 1) k3 gv u rv W') := by
  obtain ⟨v, n, xs, hp, ⟨v1, n1⟩, ⟨v2, n2⟩, v3, n3⟩ := h.ex
  have e9 : 9 + (3 + i) = 12 + i := by omega
  refine ⟨xs (12 + i), ?_, fun W' g cap news hv ho hg => ?_, fun W' u us ho hg => ?_⟩
  · have hr := hp.bs.fm.own (12 + i) (by omega)
    rw [v2, n2, (ee_d9 hi).1, (ee_d9 hi).2] at hr
    exact hr
  · have hf := hp.bs.fm.fits (j := 3 + i) (g := g) (cap := cap) (news := news) (by omega) (by rw [e9, n2, (hp.nn i hi).2.1]; omega) (by rw [e9, n2, v2]; exact hv) (by rw [e9, n2, (ee_d9 hi).1, (ee_d9 hi).2]; exact ho) hg
    have hm := hp.more (by omega) hf
    rw [e9, n2] at hm
    refine ⟨⟨_, _, _, hm, ⟨?_, ?_⟩, ⟨upd_same _ _ _, upd_same _ _ _⟩, ?_, ?_⟩⟩
    · rw [upd_ne _ _ (by omega)]; exact v1
    · rw [upd_ne _ _ (by omega)]; exact n1
    · rw [upd_ne _ _ (by omega)]; exact v3
    · rw [upd_ne _ _ (by omega)]; exact n3
  · have hf := hp.bs.fm.grows (j := 12 + i) (by rw [(ee_d9 hi).1, (ee_d9 hi).2]; exact ho) hg
    have hm := hp.more (j := 3 + i) (by omega) (by rw [e9]; exact hf)
    rw [e9] at hm
    refine ⟨⟨_, _, _, hm, ⟨?_, ?_⟩, ⟨upd_same _ _ _, upd_same _ _ _⟩, ?_, ?_⟩⟩
    · rw [upd_ne _ _ (by omega)]; exact v1
    · rw [upd_ne _ _ (by omega)]; exact n1
    · rw [upd_ne _ _ (by omega)]; exact v3
    · rw [upd_ne _ _ (by omega)]; exact n3
theorem Q.rowR {gv dv rv : Value} (h : Q W1 b0 b1 N D G i k1 k2 k3 gv dv rv W) (hi : i < 3) : ∃ ys, W.ownsRow W1.heap.size 36 3 rv (G + k3) ys ∧
    (∀ (W' : World) (g cap : Nat) (news : List Value), rv = .slice (some ⟨g, 0, none⟩) (G + k3) cap → W'.ownsRow W1.heap.size 36 3 (.slice (some ⟨g, 0, none⟩) (G + k3 + 1) cap) (G + k3 + 1) (ys ++ news) → W.grownBy W' (some g) → Q W1 b0 b1 N D G i k1 k2 (k3 + 1) gv dv (.slice (some ⟨g, 0, none⟩) (G + k3 + 1) cap) W') ∧
    (∀ (W' : World) (u : Value) (us : List Value), W'.ownsRow W.heap.size 36 3 u (G + k3 + 1) us → W.grownBy W' none → Q W1 b0 b1 N D G i k1 k2 (k3 + 1) gv dv u W') := by
  obtain ⟨v, n, xs, hp, ⟨v1, n1⟩, ⟨v2, n2⟩, v3, n3⟩ := h.ex
  have e9 : 9 + (6 + i) = 15 + i := by omega
  refine ⟨xs (15 + i), ?_, fun W' g cap news hv ho hg => ?_, fun W' u us ho hg => ?_⟩
  · have hr := hp.bs.fm.own (15 + i) (by omega)
    rw [v3, n3, (ee_r9 hi).1, (ee_r9 hi).2] at hr
    exact hr
  · have hf := hp.bs.fm.fits (j := 6 + i) (g := g) (cap := cap) (news := news) (by omega) (by rw [e9, n3, (hp.nn i hi).2.2]; omega) (by rw [e9, n3, v3]; exact hv) (by rw [e9, n3, (ee_r9 hi).1, (ee_r9 hi).2]; exact ho) hg
    have hm := hp.more (by omega) hf
    rw [e9, n3] at hm
    refine ⟨⟨_, _, _, hm, ⟨?_, ?_⟩, ⟨?_, ?_⟩, upd_same _ _ _, upd_same _ _ _⟩⟩
    · rw [upd_ne _ _ (by omega)]; exact v1
    · rw [upd_ne _ _ (by omega)]; exact n1
    · rw [upd_ne _ _ (by omega)]; exact v2
    · rw [upd_ne _ _ (by omega)]; exact n2
  · have hf := hp.bs.fm.grows (j := 15 + i) (by rw [(ee_r9 hi).1, (ee_r9 hi).2]; exact ho) hg
    have hm := hp.more (j := 6 + i) (by omega) (by rw [e9]; exact hf)
    rw [e9] at hm
    refine ⟨⟨_, _, _, hm, ⟨?_, ?_⟩, ⟨?_, ?_⟩, upd_same _ _ _, upd_same _ _ _⟩⟩
    · rw [upd_ne _ _ (by omega)]; exact v1
    · rw [upd_ne _ _ (by omega)]; exact n1
    · rw [upd_ne _ _ (by omega)]; exact v2
    · rw [upd_ne _ _ (by omega)]; exact n2

end O
end Go.Proofs.Ytnmkaidpfoglkaa
