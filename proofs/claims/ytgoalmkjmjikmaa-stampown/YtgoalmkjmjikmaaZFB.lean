/-
  The law StampOwn's rows: made and written over (H), gone on from (K).
-/
import Derived.Test.YtgoalmkjmjikmaaZFA
set_option linter.unusedSimpArgs false
set_option linter.unusedVariables false
namespace Go.Proofs.Ytgoalmkjmjikmaa
open Go.RowKit Go.Lib

namespace O

variable {W1 W W' : World} {bk : Nat → Nat} {N M i k k1 k2 : Nat} {c1 c2 : Bool} {v : Nat → Value} {n : Nat → Nat} {xs : Nat → List Value} {u : Value} {us : List Value} {q : Nat}

def bm (a : Int) : Value := .int .u8 a
def rm (a : Int) : Value := .int .i64 a
/-- the first k of bytes, of runs, bear a mark -/
def Fb (ys : List Value) (k : Nat) (a : Int) : Prop := ∀ q, q < k → ys[q]? = some (bm a)
def Fr (ys : List Value) (k : Nat) (a : Int) : Prop := ∀ q, q < k → ys[q * 3 + 2]? = some (rm a)
def Lb (ys : List Value) (N K : Nat) (a b : Int) : Prop := Fb ys N a ∧ ∀ q, N ≤ q → q < N + K → ys[q]? = some (bm b)
def Lr (ys : List Value) (N K : Nat) (a b : Int) : Prop := Fr ys N a ∧ ∀ q, N ≤ q → q < N + K → ys[q * 3 + 2]? = some (rm b)
theorem Fb.zero (ys : List Value) (a : Int) : Fb ys 0 a := fun q h => by omega
theorem Fr.zero (ys : List Value) (a : Int) : Fr ys 0 a := fun q h => by omega
theorem Fb.set {ys : List Value} {k : Nat} {a : Int} (h : Fb ys k a) (hl : k < ys.length) : Fb (ys.set k (bm a)) (k + 1) a := fun q hq => by
  by_cases e : q = k
  · subst e; exact List.getElem?_set_self hl
  · rw [List.getElem?_set_ne (by omega)]; exact h q (by omega)
theorem Fr.set {ys : List Value} {k : Nat} {a : Int} (h : Fr ys k a) (hl : k * 3 + 2 < ys.length) (x y : Value) : Fr (((ys.set (k * 3) x).set (k * 3 + 1) y).set (k * 3 + 2) (rm a)) (k + 1) a := fun q hq => by
  by_cases e : q = k
  · subst e; exact List.getElem?_set_self (by rw [List.length_set, List.length_set]; exact hl)
  · rw [List.getElem?_set_ne (by omega), List.getElem?_set_ne (by omega), List.getElem?_set_ne (by omega)]; exact h q (by omega)
theorem Lb.more {ys : List Value} {N K : Nat} {a b : Int} (h : Lb ys N K a b) (hl : ys.length = N + K) : Lb (ys ++ [bm b]) N (K + 1) a b := by
  refine ⟨fun q hq => ?_, fun q h1 h2 => ?_⟩
  · rw [List.getElem?_append_left (by omega)]; exact h.1 q hq
  · by_cases e : q = N + K
    · subst e; rw [List.getElem?_append_right (by omega), hl, Nat.sub_self]; rfl
    · rw [List.getElem?_append_left (by omega)]; exact h.2 q h1 (by omega)
theorem Lr.more {ys : List Value} {N K : Nat} {a b : Int} (h : Lr ys N K a b) (hl : ys.length = (N + K) * 3) (x y : Value) : Lr (ys ++ [x, y, rm b]) N (K + 1) a b := by
  refine ⟨fun q hq => ?_, fun q h1 h2 => ?_⟩
  · rw [List.getElem?_append_left (by omega)]; exact h.1 q hq
  · by_cases e : q = N + K
    · subst e; rw [List.getElem?_append_right (by omega), hl, show (N + K) * 3 + 2 - (N + K) * 3 = 2 by omega]; rfl
    · rw [List.getElem?_append_left (by omega)]; exact h.2 q h1 (by omega)

structure H (W1 : World) (bk : Nat → Nat) (N M i : Nat) (c1 c2 : Bool) (k1 k2 : Nat) (v : Nat → Value) (n : Nat → Nat) (xs : Nat → List Value) (W : World) : Prop where
  bs : BS W1 bk v n xs W
  go : ∀ j, j < 6 → v (6 + j) = .slice none 0 0
  dn : ∀ j, j < i → n j = N ∧ n (3 + j) = M ∧ Fb (xs j) N (10 + (j : Int)) ∧ Fr (xs (3 + j)) M (10 + (j : Int))
  r1 : c1 = true → n i = N
  r2 : c2 = true → n (3 + i) = M
  f1 : Fb (xs i) k1 (10 + (i : Int))
  f2 : Fr (xs (3 + i)) k2 (10 + (i : Int))

theorem H.below (h : H W1 bk N M i c1 c2 k1 k2 v n xs W) (hb : Below W.heap.size W W') : H W1 bk N M i c1 c2 k1 k2 v n xs W' := ⟨h.bs.below hb, h.go, h.dn, h.r1, h.r2, h.f1, h.f2⟩

theorem ee_b {i : Nat} (hi : i < 3) : ee i = 5 ∧ ss i = 1 := by unfold ee ss; rw [if_pos (by omega), if_neg (by omega)]; exact ⟨rfl, rfl⟩
theorem ee_r {i : Nat} (hi : i < 3) : ee (3 + i) = 28 ∧ ss (3 + i) = 3 := by unfold ee ss; rw [if_neg (by omega), if_pos (by omega), if_pos (by omega)]; exact ⟨rfl, rfl⟩
theorem ee_b6 {i : Nat} (hi : i < 3) : ee (6 + i) = 5 ∧ ss (6 + i) = 1 := by rw [ee_six (by omega), ss_six (by omega)]; exact ee_b hi
theorem ee_r9 {i : Nat} (hi : i < 3) : ee (9 + i) = 28 ∧ ss (9 + i) = 3 := by
  rw [show 9 + i = 6 + (3 + i) by omega, ee_six (by omega), ss_six (by omega)]; exact ee_r hi

/-- w.Data() into its array -/
theorem H.rows (h : H W1 bk N M i false false 0 0 v n xs W) (hi : i < 3) (hb : Below W.heap.size W W') (ho : W'.ownsRow W.heap.size 5 1 u N us) :
    ∃ v' n' xs', H W1 bk N M i true false 0 0 v' n' xs' (W'.setCell ⟨bk 0, i, none⟩ u) ∧ v' i = u ∧ xs' i = us := by
  have ho' : W'.ownsRow W.heap.size (ee (oo 0 + i)) (ss (oo 0 + i)) u N us := by rw [show oo 0 + i = i from Nat.zero_add i, (ee_b hi).1, (ee_b hi).2]; exact ho
  have hs := h.bs.set (g := 0) (by omega) hi (h.bs.fm.fresh hb ho')
  rw [show oo 0 + i = i from Nat.zero_add i] at hs
  refine ⟨_, _, _, ⟨hs, fun j hj => ?_, fun j hj => ?_, fun _ => ?_, fun e => (by cases e), Fb.zero _ _, Fr.zero _ _⟩, upd_same _ _ _, ?_⟩
  · rw [upd_ne _ _ (by omega)]; exact h.go j hj
  · rw [upd_ne _ _ (by omega), upd_ne _ _ (by omega), upd_ne _ _ (by omega), upd_ne _ _ (by omega), upd_ne _ _ (by omega), upd_ne _ _ (by omega)]; exact h.dn j hj
  · rw [upd_same]
  · rw [upd_ne _ _ (by omega), upd_same]

/-- Pack(m) into its array -/
theorem H.packs (h : H W1 bk N M i true false 0 0 v n xs W) (hi : i < 3) (hb : Below W.heap.size W W') (ho : W'.ownsRow W.heap.size 28 3 u M us) :
    ∃ v' n' xs', H W1 bk N M i true true 0 0 v' n' xs' (W'.setCell ⟨bk 2, i, none⟩ u) ∧ v' (3 + i) = u ∧ v' i = v i ∧ xs' i = xs i := by
  have ho' : W'.ownsRow W.heap.size (ee (oo 2 + i)) (ss (oo 2 + i)) u M us := by rw [show oo 2 = 3 from rfl, (ee_r hi).1, (ee_r hi).2]; exact ho
  have hs := h.bs.set (g := 2) (by omega) hi (h.bs.fm.fresh hb ho')
  rw [show oo 2 = 3 from rfl] at hs
  refine ⟨_, _, _, ⟨hs, fun j hj => ?_, fun j hj => ?_, fun _ => ?_, fun _ => ?_, Fb.zero _ _, Fr.zero _ _⟩, upd_same _ _ _, ?_, ?_⟩
  · rw [upd_ne _ _ (by omega)]; exact h.go j hj
  · rw [upd_ne _ _ (by omega), upd_ne _ _ (by omega), upd_ne _ _ (by omega), upd_ne _ _ (by omega), upd_ne _ _ (by omega), upd_ne _ _ (by omega)]; exact h.dn j hj
  · rw [upd_ne _ _ (by omega)]; exact h.r1 rfl
  · rw [upd_same]
  · rw [upd_ne _ _ (by omega)]
  · rw [upd_ne _ _ (by omega), upd_ne _ _ (by omega)]

/-- a byte is written over -/
theorem H.byte {g c : Nat} (h : H W1 bk N M i true true k 0 v n xs W) (hi : i < 3) (hk : k < N) (hv : v i = .slice (some ⟨g, 0, none⟩) N c) :
    H W1 bk N M i true true (k + 1) 0 v n (upd xs i ((xs i).set k (bm (10 + (i : Int))))) (W.setCell ⟨g, k, none⟩ (bm (10 + (i : Int)))) := by
  have ho := h.bs.fm.own i (by omega)
  have hl := ho.1
  rw [h.r1 rfl, (ee_b hi).2, Nat.mul_one] at hl
  rw [hv, h.r1 rfl] at ho
  obtain ⟨o1, o2⟩ := ho.stored k (bm (10 + (i : Int)))
  refine ⟨h.bs.over (by omega) (h.bs.fm.store (by omega) (fun j hj hne hc => ?_) (by rw [hv, h.r1 rfl]; exact o1) (by rw [hv]; exact o2)), h.go, fun j hj => ?_, h.r1, h.r2, ?_, ?_⟩
  · have h6 := col_same (j := i) (k := j) (by omega) hj (hc.trans (col_six (by omega)).symm)
    rcases h6 with h6 | h6
    · exact absurd h6 hne
    · rw [h6, h.go i (by omega)]; rfl
  · rw [upd_ne _ _ (by omega), upd_ne _ _ (by omega)]; exact h.dn j hj
  · rw [upd_same]; exact h.f1.set (by omega)
  · rw [upd_ne _ _ (by omega)]; exact h.f2

/-- a run is written over -/
theorem H.run {g c : Nat} (h : H W1 bk N M i true true N k v n xs W) (hi : i < 3) (hk : k < M) (hv : v (3 + i) = .slice (some ⟨g, 0, none⟩) M c) (x y : Value) :
    H W1 bk N M i true true N (k + 1) v n (upd xs (3 + i) ((((xs (3 + i)).set (k * 3) x).set (k * 3 + 1) y).set (k * 3 + 2) (rm (10 + (i : Int))))) (((W.setCell ⟨g, k * 3, none⟩ x).setCell ⟨g, k * 3 + 1, none⟩ y).setCell ⟨g, k * 3 + 2, none⟩ (rm (10 + (i : Int)))) := by
  have ho := h.bs.fm.own (3 + i) (by omega)
  have hl := ho.1
  rw [h.r2 rfl, (ee_r hi).2] at hl
  rw [hv, h.r2 rfl] at ho
  obtain ⟨o1, g1⟩ := ho.stored (k * 3) x
  obtain ⟨o2, g2⟩ := o1.stored (k * 3 + 1) y
  obtain ⟨o3, g3⟩ := o2.stored (k * 3 + 2) (rm (10 + (i : Int)))
  refine ⟨h.bs.over (by omega) (h.bs.fm.store (by omega) (fun j hj hne hc => ?_) (by rw [hv, h.r2 rfl]; exact o3) (by rw [hv]; exact grownBy_trans (grownBy_trans g1 g2) g3)), h.go, fun j hj => ?_, h.r1, h.r2, ?_, ?_⟩
  · have h6 := col_same (j := 3 + i) (k := j) (by omega) hj (hc.trans (col_six (by omega)).symm)
    rcases h6 with h6 | h6
    · exact absurd h6 hne
    · rw [h6, h.go (3 + i) (by omega)]; rfl
  · rw [upd_ne _ _ (by omega), upd_ne _ _ (by omega)]; exact h.dn j hj
  · rw [upd_ne _ _ (by omega)]; exact h.f1
  · rw [upd_same]; exact h.f2.set (by omega) x y

theorem H.next (h : H W1 bk N M i true true N M v n xs W) : H W1 bk N M (i + 1) false false 0 0 v n xs W :=
  ⟨h.bs, h.go, fun j hj => (by
    by_cases e : j = i
    · subst e; exact ⟨h.r1 rfl, h.r2 rfl, h.f1, h.f2⟩
    · exact h.dn j (by omega)), fun e => (by cases e), fun e => (by cases e), Fb.zero _ _, Fr.zero _ _⟩

structure K (W1 : World) (bk : Nat → Nat) (N M i : Nat) (c1 c2 : Bool) (k1 k2 : Nat) (v : Nat → Value) (n : Nat → Nat) (xs : Nat → List Value) (W : World) : Prop where
  bs : BS W1 bk v n xs W
  dn : ∀ j, j < 3 → n j = N ∧ n (3 + j) = M ∧ Fb (xs j) N (10 + (j : Int)) ∧ Fr (xs (3 + j)) M (10 + (j : Int))
  se : ∀ j, j < i → n (6 + j) = N + 40 ∧ n (9 + j) = M + 40 ∧ Lb (xs (6 + j)) N 40 (10 + (j : Int)) (100 + (j : Int)) ∧ Lr (xs (9 + j)) M 40 (10 + (j : Int)) (100 + (j : Int))
  q1 : c1 = true → n (6 + i) = N + k1 ∧ Lb (xs (6 + i)) N k1 (10 + (i : Int)) (100 + (i : Int))
  q2 : c2 = true → n (9 + i) = M + k2 ∧ Lr (xs (9 + i)) M k2 (10 + (i : Int)) (100 + (i : Int))

theorem K.below (h : K W1 bk N M i c1 c2 k1 k2 v n xs W) (hb : Below W.heap.size W W') : K W1 bk N M i c1 c2 k1 k2 v n xs W' := ⟨h.bs.below hb, h.dn, h.se, h.q1, h.q2⟩
theorem K.alloc (h : K W1 bk N M i c1 c2 k1 k2 v n xs W) (o : Obj) : K W1 bk N M i c1 c2 k1 k2 v n xs (W.alloc o) := ⟨h.bs.alloc o, h.dn, h.se, h.q1, h.q2⟩
theorem K.start (h : H W1 bk N M 3 c1 c2 k1 k2 v n xs W) : K W1 bk N M 0 false false 0 0 v n xs W := ⟨h.bs, fun j hj => h.dn j hj, fun j hj => (by omega), fun e => (by cases e), fun e => (by cases e)⟩
theorem K.next (h : K W1 bk N M i true true 40 40 v n xs W) : K W1 bk N M (i + 1) false false 0 0 v n xs W :=
  ⟨h.bs, h.dn, fun j hj => (by
    by_cases e : j = i
    · subst e; exact ⟨(h.q1 rfl).1, (h.q2 rfl).1, (h.q1 rfl).2, (h.q2 rfl).2⟩
    · exact h.se j (by omega)), fun e => (by cases e), fun e => (by cases e)⟩

/-- a row that goes on, put into its array: of bytes -/
theorem K.putB {c : Nat} (h : K W1 bk N M i c1 c2 k1 k2 v n xs W) (hi : i < 3) (hf : Fam W1 (upd v (6 + i) u) (upd n (6 + i) q) (upd xs (6 + i) us) W') (hq : q = N + c) (hl : Lb us N c (10 + (i : Int)) (100 + (i : Int))) :
    ∃ v' n' xs', K W1 bk N M i true c2 c k2 v' n' xs' (W'.setCell ⟨bk 1, i, none⟩ u) ∧ v' (6 + i) = u ∧ W'.cell? ⟨bk 1, i, none⟩ = some (v (6 + i)) ∧ W'.frozen? ⟨bk 1, i, none⟩ = false ∧ bk 1 < W'.heap.size := by
  have hs := h.bs.set (g := 1) (by omega) hi (show Fam W1 (upd v (oo 1 + i) u) (upd n (oo 1 + i) q) (upd xs (oo 1 + i) us) W' from hf)
  rw [show oo 1 = 6 from rfl] at hs
  refine ⟨_, _, _, ⟨hs, fun j hj => ?_, fun j hj => ?_, fun _ => ?_, fun e => ?_⟩, upd_same _ _ _, h.bs.slot (g := 1) (by omega) hi (show Fam W1 (upd v (oo 1 + i) u) (upd n (oo 1 + i) q) (upd xs (oo 1 + i) us) W' from hf)⟩
  · rw [upd_ne _ _ (by omega), upd_ne _ _ (by omega), upd_ne _ _ (by omega), upd_ne _ _ (by omega), upd_ne _ _ (by omega), upd_ne _ _ (by omega)]; exact h.dn j hj
  · rw [upd_ne _ _ (by omega), upd_ne _ _ (by omega), upd_ne _ _ (by omega), upd_ne _ _ (by omega), upd_ne _ _ (by omega), upd_ne _ _ (by omega)]; exact h.se j hj
  · rw [upd_same, upd_ne _ _ (by omega), upd_same]; exact ⟨hq, hl⟩
  · rw [upd_ne _ _ (by omega), upd_ne _ _ (by omega), upd_ne _ _ (by omega)]; exact h.q2 e
/-- of runs -/
theorem K.putR {c : Nat} (h : K W1 bk N M i c1 c2 k1 k2 v n xs W) (hi : i < 3) (hf : Fam W1 (upd v (9 + i) u) (upd n (9 + i) q) (upd xs (9 + i) us) W') (hq : q = M + c) (hl : Lr us M c (10 + (i : Int)) (100 + (i : Int))) :
    ∃ v' n' xs', K W1 bk N M i c1 true k1 c v' n' xs' (W'.setCell ⟨bk 3, i, none⟩ u) ∧ v' (9 + i) = u ∧ W'.cell? ⟨bk 3, i, none⟩ = some (v (9 + i)) ∧ W'.frozen? ⟨bk 3, i, none⟩ = false ∧ bk 3 < W'.heap.size := by
  have hs := h.bs.set (g := 3) (by omega) hi (show Fam W1 (upd v (oo 3 + i) u) (upd n (oo 3 + i) q) (upd xs (oo 3 + i) us) W' from hf)
  rw [show oo 3 = 9 from rfl] at hs
  refine ⟨_, _, _, ⟨hs, fun j hj => ?_, fun j hj => ?_, fun e => ?_, fun _ => ?_⟩, upd_same _ _ _, h.bs.slot (g := 3) (by omega) hi (show Fam W1 (upd v (oo 3 + i) u) (upd n (oo 3 + i) q) (upd xs (oo 3 + i) us) W' from hf)⟩
  · rw [upd_ne _ _ (by omega), upd_ne _ _ (by omega), upd_ne _ _ (by omega), upd_ne _ _ (by omega), upd_ne _ _ (by omega), upd_ne _ _ (by omega)]; exact h.dn j hj
  · rw [upd_ne _ _ (by omega), upd_ne _ _ (by omega), upd_ne _ _ (by omega), upd_ne _ _ (by omega), upd_ne _ _ (by omega), upd_ne _ _ (by omega)]; exact h.se j hj
  · rw [upd_ne _ _ (by omega), upd_ne _ _ (by omega), upd_ne _ _ (by omega)]; exact h.q1 e
  · rw [upd_same, upd_ne _ _ (by omega), upd_same]; exact ⟨hq, hl⟩

/-- longs[i] = rows[i], more[i] = packs[i] -/
theorem K.longs (h : K W1 bk N M i false false 0 0 v n xs W) (hi : i < 3) : ∃ v' n' xs', K W1 bk N M i true false 0 0 v' n' xs' (W.setCell ⟨bk 1, i, none⟩ (v i)) ∧ v' (6 + i) = v i ∧ W.cell? ⟨bk 1, i, none⟩ = some (v (6 + i)) ∧ W.frozen? ⟨bk 1, i, none⟩ = false ∧ bk 1 < W.heap.size :=
  h.putB hi (h.bs.fm.again (by omega)) (h.dn i hi).1 ⟨(h.dn i hi).2.2.1, fun q h1 h2 => by omega⟩
theorem K.more (h : K W1 bk N M i true false 0 0 v n xs W) (hi : i < 3) : ∃ v' n' xs', K W1 bk N M i true true 0 0 v' n' xs' (W.setCell ⟨bk 3, i, none⟩ (v (3 + i))) ∧ v' (9 + i) = v (3 + i) ∧ W.cell? ⟨bk 3, i, none⟩ = some (v (9 + i)) ∧ W.frozen? ⟨bk 3, i, none⟩ = false ∧ bk 3 < W.heap.size :=
  h.putR hi (by have hf := h.bs.fm.again (j := 3 + i) (by omega); rw [show 6 + (3 + i) = 9 + i by omega] at hf; exact hf) (h.dn i hi).2.1 ⟨(h.dn i hi).2.2.2, fun q h1 h2 => by omega⟩

theorem K.fitsB {g cap : Nat} (h : K W1 bk N M i true c2 k k2 v n xs W) (hi : i < 3) (hv : v (6 + i) = .slice (some ⟨g, 0, none⟩) (N + k) cap)
    (ho : W'.ownsRow W1.heap.size 5 1 (.slice (some ⟨g, 0, none⟩) (N + k + 1) cap) (N + k + 1) (xs (6 + i) ++ [bm (100 + (i : Int))])) (hg : W.grownBy W' (some g)) :
    ∃ v' n' xs', K W1 bk N M i true c2 (k + 1) k2 v' n' xs' (W'.setCell ⟨bk 1, i, none⟩ (.slice (some ⟨g, 0, none⟩) (N + k + 1) cap)) ∧ v' (6 + i) = .slice (some ⟨g, 0, none⟩) (N + k + 1) cap ∧ W'.cell? ⟨bk 1, i, none⟩ = some (v (6 + i)) ∧ W'.frozen? ⟨bk 1, i, none⟩ = false ∧ bk 1 < W'.heap.size := by
  obtain ⟨q1, q2⟩ := h.q1 rfl
  have hl := (h.bs.fm.own (6 + i) (by omega)).1
  rw [q1, (ee_b6 hi).2, Nat.mul_one] at hl
  have hf := h.bs.fm.fits (j := i) (g := g) (cap := cap) (news := [bm (100 + (i : Int))]) (by omega) (by rw [q1, (h.dn i hi).1]; omega) (by rw [q1]; exact hv) (by rw [q1, (ee_b6 hi).1, (ee_b6 hi).2]; exact ho) hg
  rw [q1] at hf
  exact h.putB hi hf (by omega) (q2.more hl)
theorem K.growsB (h : K W1 bk N M i true c2 k k2 v n xs W) (hi : i < 3) (ho : W'.ownsRow W.heap.size 5 1 u (N + k + 1) (xs (6 + i) ++ [bm (100 + (i : Int))])) (hg : W.grownBy W' none) :
    ∃ v' n' xs', K W1 bk N M i true c2 (k + 1) k2 v' n' xs' (W'.setCell ⟨bk 1, i, none⟩ u) ∧ v' (6 + i) = u ∧ W'.cell? ⟨bk 1, i, none⟩ = some (v (6 + i)) ∧ W'.frozen? ⟨bk 1, i, none⟩ = false ∧ bk 1 < W'.heap.size := by
  obtain ⟨q1, q2⟩ := h.q1 rfl
  have hl := (h.bs.fm.own (6 + i) (by omega)).1
  rw [q1, (ee_b6 hi).2, Nat.mul_one] at hl
  exact h.putB hi (h.bs.fm.grows (j := 6 + i) (by rw [(ee_b6 hi).1, (ee_b6 hi).2]; exact ho) hg) (by omega) (q2.more hl)
theorem K.fitsR {g cap : Nat} (h : K W1 bk N M i c1 true k1 k v n xs W) (hi : i < 3) (x y : Value) (hv : v (9 + i) = .slice (some ⟨g, 0, none⟩) (M + k) cap)
    (ho : W'.ownsRow W1.heap.size 28 3 (.slice (some ⟨g, 0, none⟩) (M + k + 1) cap) (M + k + 1) (xs (9 + i) ++ [x, y, rm (100 + (i : Int))])) (hg : W.grownBy W' (some g)) :
    ∃ v' n' xs', K W1 bk N M i c1 true k1 (k + 1) v' n' xs' (W'.setCell ⟨bk 3, i, none⟩ (.slice (some ⟨g, 0, none⟩) (M + k + 1) cap)) ∧ v' (9 + i) = .slice (some ⟨g, 0, none⟩) (M + k + 1) cap ∧ W'.cell? ⟨bk 3, i, none⟩ = some (v (9 + i)) ∧ W'.frozen? ⟨bk 3, i, none⟩ = false ∧ bk 3 < W'.heap.size := by
  obtain ⟨q1, q2⟩ := h.q2 rfl
  have hl := (h.bs.fm.own (9 + i) (by omega)).1
  rw [q1, (ee_r9 hi).2] at hl
  have e9 : 6 + (3 + i) = 9 + i := by omega
  have hf := h.bs.fm.fits (j := 3 + i) (g := g) (cap := cap) (news := [x, y, rm (100 + (i : Int))]) (by omega) (by rw [e9, q1, (h.dn i hi).2.1]; omega) (by rw [e9, q1]; exact hv) (by rw [e9, q1, (ee_r9 hi).1, (ee_r9 hi).2]; exact ho) hg
  rw [e9, q1] at hf
  exact h.putR hi hf (by omega) (q2.more hl x y)
theorem K.growsR (h : K W1 bk N M i c1 true k1 k v n xs W) (hi : i < 3) (x y : Value) (ho : W'.ownsRow W.heap.size 28 3 u (M + k + 1) (xs (9 + i) ++ [x, y, rm (100 + (i : Int))])) (hg : W.grownBy W' none) :
    ∃ v' n' xs', K W1 bk N M i c1 true k1 (k + 1) v' n' xs' (W'.setCell ⟨bk 3, i, none⟩ u) ∧ v' (9 + i) = u ∧ W'.cell? ⟨bk 3, i, none⟩ = some (v (9 + i)) ∧ W'.frozen? ⟨bk 3, i, none⟩ = false ∧ bk 3 < W'.heap.size := by
  obtain ⟨q1, q2⟩ := h.q2 rfl
  have hl := (h.bs.fm.own (9 + i) (by omega)).1
  rw [q1, (ee_r9 hi).2] at hl
  exact h.putR hi (h.bs.fm.grows (j := 9 + i) (by rw [(ee_r9 hi).1, (ee_r9 hi).2]; exact ho) hg) (by omega) (q2.more hl x y)

end O
end Go.Proofs.Ytgoalmkjmjikmaa
