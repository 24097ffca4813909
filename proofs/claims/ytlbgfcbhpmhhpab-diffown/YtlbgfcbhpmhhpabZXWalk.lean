/-
  A walk through two texts in memory; ended, same, mayDrop, least.
-/
import Derived.Test.YtlbgfcbhpmhhpabZDP
import Derived.Deep.QuietTactic
import Derived.BigQuiet
import Derived.Laws.MakeOwn
import Derived.Deep.RegionWith

set_option linter.unusedSimpArgs false
set_option linter.unusedVariables false
namespace Go.Proofs.Ytlbgfcbhpmhhpab
open Go.RowKit Go.Lib

/-- a walk that stands at i and j -/
structure Wk (W : World) (p : Nat) (X Y : List Int) (N M : Nat) (i j : Nat) (a b : Option Addr) (ca cb g : Nat) : Prop where
  blk : W.heap[p]? = some (.cells #[.slice a N ca, .slice b M cb, .int .i64 (i : Nat), .int .i64 (j : Nat), .slice (some ⟨g, 0, none⟩) (N + 1) (N + 1)] 63 (0, 0))
  ra : RS W (.slice a N ca) X
  rb : RS W (.slice b M cb) Y
  nx : X.length = N
  ny : Y.length = M
  hn : N ≤ 1000000
  hm : M ≤ 1000000

/-- what of the table is worked out: the rows from I on, and in the row ahead of these the places from J on -/
def Tab (W : World) (X Y : List Int) (N M g : Nat) (r : Nat → Nat) (I J : Nat) : Prop :=
  ∀ i j : Nat, i ≤ N → j ≤ M → (I ≤ i ∨ (i + 1 = I ∧ J ≤ j)) → W.cell? ⟨g, i, none⟩ = some (.slice (some ⟨r i, 0, none⟩) (M + 1) (M + 1)) ∧ W.cell? ⟨r i, j, none⟩ = some (.int .i64 (td X Y i j : Nat))

theorem Wk.facts {W : World} {p : Nat} {X Y : List Int} {N M i j : Nat} {a b : Option Addr} {ca cb g : Nat} (h : Wk W p X Y N M i j a b ca cb g) :
    W.cell? ⟨p, 0, none⟩ = some (.slice a N ca) ∧ W.cell? ⟨p, 1, none⟩ = some (.slice b M cb) ∧ W.cell? ⟨p, 2, none⟩ = some (.int .i64 (i : Nat)) ∧ W.cell? ⟨p, 3, none⟩ = some (.int .i64 (j : Nat)) ∧ W.cell? ⟨p, 4, none⟩ = some (.slice (some ⟨g, 0, none⟩) (N + 1) (N + 1)) ∧ W.frozen? ⟨p, 2, none⟩ = false ∧ W.frozen? ⟨p, 3, none⟩ = false := by
  have e := h.blk
  refine ⟨?_, ?_, ?_, ?_, ?_, ?_, ?_⟩ <;> simp [World.cell?, World.frozen?, e]

theorem RS.at {W : World} {a : Option Addr} {n cap : Nat} {zs : List Int} (h : RS W (.slice a n cap) zs) {i : Nat} (hi : i < zs.length) : ∃ b off, a = some ⟨b, off, none⟩ ∧ W.cell? ⟨b, off + i, none⟩ = some (.int .i32 zs[i]) := by
  rcases h with ⟨rfl, _⟩ | ⟨b, off, c, e, h⟩
  · cases hi
  · simp at e
    obtain ⟨rfl, _, _⟩ := e
    exact ⟨b, off, rfl, by have := h i hi; rwa [List.getElem?_eq_getElem hi] at this⟩

set_option maxRecDepth 100000 in
set_option maxHeartbeats 2000000 in
theorem ended_in {w : World} {p : Nat} {X Y : List Int} {N M i j : Nat} {a b : Option Addr} {ca cb g : Nat} (h : Wk w p X Y N M i j a b ca cb g) (hi : i ≤ N) (hj : j ≤ M) :
    Calls Try.prog 25 #[.pointer (some ⟨p, 0, none⟩)] w fun e w' => e = .returned (.bool (decide (i = N) && decide (j = M))) ∧ ∃ n, w' = w.drewN n := by
  obtain ⟨c0, c1, c2, c3, c4, _, _⟩ := h.facts
  have hp := World.block_lt_of_cell? _ _ c0
  have hn := h.hn
  have hm := h.hm
  clear h
  simp only at hp
  by_cases e1 : i = N
  · have k1 : ((i : Int) == (N : Int)) = true := by simp [e1]
    have k2 : ((j : Int) == (M : Int)) = decide (j = M) := by rw [Bool.eq_iff_iff]; simp; omega
    have k3 : (decide (i = N) && decide (j = M)) = decide (j = M) := by simp [e1]
    rw [k3]
    clear e1 k3
    generalize decide (j = M) = B at *
    go_enter Try.func25, Try.ntmps25
    go_wp2
    go_quiet (fail)
    go_wp2
    go_ret
    exact ⟨rfl, _, rfl⟩
  · have k1 : ((i : Int) == (N : Int)) = false := by rw [beq_eq_false_iff_ne]; omega
    have k3 : (decide (i = N) && decide (j = M)) = false := by simp [e1]
    rw [k3]
    clear e1 k3
    go_enter Try.func25, Try.ntmps25
    go_wp2
    go_quiet (fail)
    go_wp2
    go_ret
    exact ⟨rfl, _, rfl⟩

set_option maxRecDepth 100000 in
set_option maxHeartbeats 4000000 in
theorem same_in {w : World} {p : Nat} {X Y : List Int} {N M i j : Nat} {a b : Option Addr} {ca cb g : Nat} (h : Wk w p X Y N M i j a b ca cb g) (hi : i ≤ N) (hj : j ≤ M) :
    Calls Try.prog 32 #[.pointer (some ⟨p, 0, none⟩)] w fun e w' => e = .returned (.bool (smB X Y i j)) ∧ ∃ n, w' = w.drewN n := by
  obtain ⟨c0, c1, c2, c3, c4, _, _⟩ := h.facts
  have hp := World.block_lt_of_cell? _ _ c0
  have hn := h.hn
  have hm := h.hm
  have nx := h.nx
  have ny := h.ny
  simp only at hp
  by_cases e1 : i < N
  · have k1 : decide ((i : Int) < (N : Int)) = true := by simp [e1]
    have k1' : decide (i < N) = true := by simp [e1]
    obtain ⟨ba, oa, rfl, x1⟩ := h.ra.at (i := i) (by omega)
    by_cases e2 : j < M
    · have k2 : decide ((j : Int) < (M : Int)) = true := by simp [e2]
      have k2' : decide (j < M) = true := by simp [e2]
      obtain ⟨bb, ob, rfl, y1⟩ := h.rb.at (i := j) (by omega)
      have hba := World.block_lt_of_cell? _ _ x1
      have hbb := World.block_lt_of_cell? _ _ y1
      simp only at hba hbb
      rw [smB_in (by omega) (by omega)]
      obtain ⟨x, hx⟩ : ∃ x, X[i]'(by omega) = x := ⟨_, rfl⟩
      obtain ⟨y, hy⟩ : ∃ y, Y[j]'(by omega) = y := ⟨_, rfl⟩
      rw [hx] at x1 ⊢
      rw [hy] at y1 ⊢
      have k3 : (x == y) = decide (x = y) := by rw [Bool.eq_iff_iff]; simp
      have f1 : (i : Int) < (N : Int) := by omega
      have f2 : (j : Int) < (M : Int) := by omega
      clear h hx hy nx ny e1 e2 hi hj
      generalize decide (x = y) = B at *
      go_enter Try.func32, Try.ntmps32
      go_wp2
      go_quiet (fail)
      go_wp2
      go_ret
      exact ⟨rfl, _, rfl⟩
    · have k2 : decide ((j : Int) < (M : Int)) = false := by rw [decide_eq_false_iff_not]; omega
      have k2' : decide (j < M) = false := by rw [decide_eq_false_iff_not]; omega
      have k3 : smB X Y i j = false := by unfold smB; rw [List.getElem?_eq_none (show Y.length ≤ j by omega)]; cases X[i]? <;> rfl
      rw [k3]
      clear h nx ny e1 e2 hi hj k3 x1
      go_enter Try.func32, Try.ntmps32
      go_wp2
      go_quiet (fail)
      go_wp2
      go_ret
      exact ⟨rfl, _, rfl⟩
  · have k2 : decide ((i : Int) < (N : Int)) = false := by rw [decide_eq_false_iff_not]; omega
    have k2' : decide (i < N) = false := by rw [decide_eq_false_iff_not]; omega
    have k3 : smB X Y i j = false := by unfold smB; rw [List.getElem?_eq_none (show X.length ≤ i by omega)]
    rw [k3]
    clear h nx ny e1 hi hj k3
    go_enter Try.func32, Try.ntmps32
    go_wp2
    go_quiet (fail)
    go_wp2
    go_ret
    exact ⟨rfl, _, rfl⟩

set_option maxRecDepth 100000 in
set_option maxHeartbeats 4000000 in
theorem mayDrop_in {w : World} {p : Nat} {X Y : List Int} {N M i j : Nat} {a b : Option Addr} {ca cb g : Nat} {r : Nat → Nat} (h : Wk w p X Y N M i j a b ca cb g) (hT : Tab w X Y N M g r 0 0) (hi : i ≤ N) (hj : j ≤ M) :
    Calls Try.prog 33 #[.pointer (some ⟨p, 0, none⟩)] w fun e w' => e = .returned (.bool (mdB X Y i j)) ∧ ∃ n, w' = w.drewN n := by
  obtain ⟨c0, c1, c2, c3, c4, _, _⟩ := h.facts
  have hp := World.block_lt_of_cell? _ _ c0
  have hn := h.hn
  have hm := h.hm
  have nx := h.nx
  have ny := h.ny
  simp only at hp
  by_cases e1 : i < N
  · have k1 : decide ((i : Int) < (N : Int)) = true := by simp [e1]
    have k1' : decide (i < N) = true := by simp [e1]
    obtain ⟨t1, t2⟩ := hT (i + 1) j (by omega) hj (.inl (Nat.zero_le _))
    obtain ⟨t3, t4⟩ := hT i j hi hj (.inl (Nat.zero_le _))
    have b1 := World.block_lt_of_cell? _ _ t1
    have b2 := World.block_lt_of_cell? _ _ t2
    have b4 := World.block_lt_of_cell? _ _ t4
    simp only at b1 b2 b4
    have k3 : mdB X Y i j = decide (td X Y (i + 1) j < td X Y i j) := by unfold mdB; simp [nx, e1]
    rw [k3]
    have f1 : (i : Int) + 1 < ((N + 1 : Nat) : Int) := by omega
    have f2 : (i : Int) < ((N + 1 : Nat) : Int) := by omega
    have f3 : (j : Int) < ((M + 1 : Nat) : Int) := by omega
    have f4 : ((i : Int) + 1).toNat = i + 1 := by omega
    have f5 : (0 : Int) ≤ (i : Int) + 1 := by omega
    generalize r (i + 1) = r1 at *
    generalize r i = r2 at *
    generalize td X Y (i + 1) j = d1 at *
    generalize td X Y i j = d2 at *
    clear h nx ny e1 hj hT k3
    go_enter Try.func33, Try.ntmps33
    go_wp2
    go_quiet (fail)
    go_wp2
    go_ret
    exact ⟨rfl, _, rfl⟩
  · have k2 : decide ((i : Int) < (N : Int)) = false := by rw [decide_eq_false_iff_not]; omega
    have k2' : decide (i < N) = false := by rw [decide_eq_false_iff_not]; omega
    have k3 : mdB X Y i j = false := by unfold mdB; rw [nx]; simp [e1]
    rw [k3]
    clear h nx ny e1 hi hj k3 hT
    go_enter Try.func33, Try.ntmps33
    go_wp2
    go_quiet (fail)
    go_wp2
    go_ret
    exact ⟨rfl, _, rfl⟩

end Go.Proofs.Ytlbgfcbhpmhhpab

/-
  least: one place of the table by those behind it.
-/
set_option linter.unusedSimpArgs false
set_option linter.unusedVariables false
namespace Go.Proofs.Ytlbgfcbhpmhhpab
open Go.RowKit Go.Lib

set_option maxRecDepth 100000 in
set_option maxHeartbeats 4000000 in
theorem least_end {w : World} {p : Nat} {X Y : List Int} {N M i0 j0 i j : Nat} {a b : Option Addr} {ca cb g : Nat} (h : Wk w p X Y N M i0 j0 a b ca cb g) (hi : i ≤ N) (hj : j ≤ M) (e0 : i = N ∨ j = M) :
    Calls Try.prog 23 #[.pointer (some ⟨p, 0, none⟩), .int .i64 (i : Nat), .int .i64 (j : Nat)] w fun e w' => e = .returned (.int .i64 (td X Y i j : Nat)) ∧ ∃ n, w' = w.drewN n := by
  obtain ⟨c0, c1, c2, c3, c4, _, _⟩ := h.facts
  have hp := World.block_lt_of_cell? _ _ c0
  have hn := h.hn
  have hm := h.hm
  have nx := h.nx
  have ny := h.ny
  simp only at hp
  have ht := td_end (x := X) (y := Y) (i := i) (j := j) (by omega) (by omega) (by omega)
  rw [ht, nx, ny]
  obtain ⟨R, hR⟩ : ∃ R, max ((N : Int) - (i : Int)) ((M : Int) - (j : Int)) = R := ⟨_, rfl⟩
  rw [hR]
  have HR := hide hR
  have He := hide e0
  clear hR
  clear ht h nx ny
  by_cases e1 : i = N
  · have k1 : ((i : Int) == (N : Int)) = true := by simp [e1]
    go_enter Try.func23, Try.ntmps23
    go_wp2
    go_quiet (fail)
    go_wp2
    all_goals (go_ret; refine ⟨?_, _, rfl⟩; show Ending.returned (Value.int .i64 _) = Ending.returned (Value.int .i64 _); have hr := unhide HR; congr 2; omega)
  · have k1 : ((i : Int) == (N : Int)) = false := by rw [beq_eq_false_iff_ne]; omega
    have k2 : ((j : Int) == (M : Int)) = true := by rw [beq_iff_eq]; omega
    go_enter Try.func23, Try.ntmps23
    go_wp2
    go_quiet (fail)
    go_wp2
    all_goals (go_ret; refine ⟨?_, _, rfl⟩; show Ending.returned (Value.int .i64 _) = Ending.returned (Value.int .i64 _); have hr := unhide HR; congr 2; omega)

set_option maxRecDepth 100000 in
set_option maxHeartbeats 4000000 in
theorem least_mid {w : World} {p : Nat} {X Y : List Int} {N M i0 j0 i j : Nat} {a b : Option Addr} {ca cb g : Nat} {r : Nat → Nat} (h : Wk w p X Y N M i0 j0 a b ca cb g) (hT : Tab w X Y N M g r (i + 1) (j + 1)) (hi : i < N) (hj : j < M) :
    Calls Try.prog 23 #[.pointer (some ⟨p, 0, none⟩), .int .i64 (i : Nat), .int .i64 (j : Nat)] w fun e w' => e = .returned (.int .i64 (td X Y i j : Nat)) ∧ ∃ n, w' = w.drewN n := by
  obtain ⟨c0, c1, c2, c3, c4, _, _⟩ := h.facts
  have hp := World.block_lt_of_cell? _ _ c0
  have hn := h.hn
  have hm := h.hm
  have nx := h.nx
  have ny := h.ny
  simp only at hp
  have k1 : ((i : Int) == (N : Int)) = false := by rw [beq_eq_false_iff_ne]; omega
  have k2 : ((j : Int) == (M : Int)) = false := by rw [beq_eq_false_iff_ne]; omega
  obtain ⟨ba, oa, rfl, x1⟩ := h.ra.at (i := i) (by omega)
  obtain ⟨bb, ob, rfl, y1⟩ := h.rb.at (i := j) (by omega)
  have hba := World.block_lt_of_cell? _ _ x1
  have hbb := World.block_lt_of_cell? _ _ y1
  simp only at hba hbb
  have f1 : (i : Int) < (N : Int) := by omega
  have f2 : (j : Int) < (M : Int) := by omega
  have f3 : (i : Int) + 1 < ((N + 1 : Nat) : Int) := by omega
  have f4 : (j : Int) + 1 < ((M + 1 : Nat) : Int) := by omega
  have f5 : ((i : Int) + 1).toNat = i + 1 := by omega
  have f6 : ((j : Int) + 1).toNat = j + 1 := by omega
  have f7 : (i : Int) < ((N + 1 : Nat) : Int) := by omega
  have f8 : (j : Int) < ((M + 1 : Nat) : Int) := by omega
  obtain ⟨t1, t2⟩ := hT (i + 1) (j + 1) (by omega) (by omega) (.inl (by omega))
  obtain ⟨_, t3⟩ := hT (i + 1) j (by omega) (by omega) (.inl (by omega))
  obtain ⟨t4, t5⟩ := hT i (j + 1) (by omega) (by omega) (.inr ⟨rfl, by omega⟩)
  have b1 := World.block_lt_of_cell? _ _ t1
  have b2 := World.block_lt_of_cell? _ _ t2
  have b5 := World.block_lt_of_cell? _ _ t5
  simp only at b1 b2 b5
  have d1 := td_le X Y (i + 1) (j + 1)
  have d2 := td_le X Y (i + 1) j
  have d3 := td_le X Y i (j + 1)
  have ts := td_same (x := X) (y := Y) (i := i) (j := j) (by omega) (by omega)
  have tn := td_ne (x := X) (y := Y) (i := i) (j := j) (by omega) (by omega)
  obtain ⟨x, hx⟩ : ∃ x, X[i]'(by omega) = x := ⟨_, rfl⟩
  obtain ⟨y, hy⟩ : ∃ y, Y[j]'(by omega) = y := ⟨_, rfl⟩
  rw [hx] at x1 ts tn
  rw [hy] at y1 ts tn
  rw [nx, ny] at d1 d2 d3
  generalize r (i + 1) = r1 at *
  generalize r i = r2 at *
  clear h hT hx hy nx ny
  by_cases hxy : x = y
  · have k3 : (x == y) = true := by rw [beq_iff_eq]; exact hxy
    rw [ts hxy]
    clear ts tn hxy
    generalize td X Y (i + 1) (j + 1) = T1 at *
    generalize td X Y (i + 1) j = T2 at *
    generalize td X Y i (j + 1) = T3 at *
    go_enter Try.func23, Try.ntmps23
    go_wp2
    go_quiet (fail)
    go_wp2
    go_ret
    exact ⟨rfl, _, rfl⟩
  · have k3 : (x == y) = false := by rw [beq_eq_false_iff_ne]; exact hxy
    have e : ((td X Y i j : Nat) : Int) = 1 + min (td X Y (i + 1) j : Int) (td X Y i (j + 1) : Int) := by rw [tn hxy]; omega
    obtain ⟨R, hR⟩ : ∃ R : Int, ((td X Y i j : Nat) : Int) = R := ⟨_, rfl⟩
    rw [hR] at e ⊢
    clear ts tn hxy
    generalize td X Y (i + 1) (j + 1) = T1 at *
    generalize td X Y (i + 1) j = T2 at *
    generalize td X Y i (j + 1) = T3 at *
    have HR := hide e
    clear e hR
    go_enter Try.func23, Try.ntmps23
    go_wp2
    go_quiet (fail)
    go_wp2
    go_quiet (fail)
    go_wp2
    all_goals (go_ret; refine ⟨?_, _, rfl⟩; show Ending.returned (Value.int .i64 _) = Ending.returned (Value.int .i64 _); have hr := unhide HR; congr 2; omega)

theorem least_in {w : World} {p : Nat} {X Y : List Int} {N M i0 j0 i j : Nat} {a b : Option Addr} {ca cb g : Nat} {r : Nat → Nat} (h : Wk w p X Y N M i0 j0 a b ca cb g) (hT : Tab w X Y N M g r (i + 1) (j + 1)) (hi : i ≤ N) (hj : j ≤ M) :
    Calls Try.prog 23 #[.pointer (some ⟨p, 0, none⟩), .int .i64 (i : Nat), .int .i64 (j : Nat)] w fun e w' => e = .returned (.int .i64 (td X Y i j : Nat)) ∧ ∃ n, w' = w.drewN n := by
  by_cases he : i = N ∨ j = M
  · exact least_end h hi hj he
  · exact least_mid h hT (by omega) (by omega)

end Go.Proofs.Ytlbgfcbhpmhhpab

/-
  newWalk: the table is worked out from its end on.
-/
set_option linter.unusedSimpArgs false
set_option linter.unusedVariables false
namespace Go.Proofs.Ytlbgfcbhpmhhpab
open Go.RowKit Go.Lib

def wkO (w : World) (N M : Nat) (a b : Option Addr) (ca cb : Nat) : Obj := .cells #[.slice a N ca, .slice b M cb, .int .i64 0, .int .i64 0, .slice (some ⟨w.heap.size, 0, none⟩) (N + 1) (N + 1)] 63 (0, 0)

/-- between the rows -/
structure Bo (w W : World) (X Y : List Int) (N M : Nat) (a b : Option Addr) (ca cb : Nat) (r : Nat → Nat) (I : Nat) : Prop where
  bel : Below w.heap.size w W
  sz : w.heap.size + 2 ≤ W.heap.size
  blk : W.heap[w.heap.size + 1]? = some (wkO w N M a b ca cb)
  tb : ∃ T : Array Value, W.heap[w.heap.size]? = some (.cells T 64 (0, 0)) ∧ T.size = N + 1
  tab : Tab W X Y N M w.heap.size r I (M + 1)
  rge : ∀ i, I ≤ i → i ≤ N → w.heap.size + 2 ≤ r i

/-- within a row -/
structure Bd (w W : World) (X Y : List Int) (N M : Nat) (a b : Option Addr) (ca cb : Nat) (r : Nat → Nat) (I J : Nat) (q : Nat) : Prop where
  bel : Below w.heap.size w W
  blk : W.heap[w.heap.size + 1]? = some (wkO w N M a b ca cb)
  tb : ∃ T : Array Value, W.heap[w.heap.size]? = some (.cells T 64 (0, 0)) ∧ T.size = N + 1
  tab : Tab W X Y N M w.heap.size r (I + 1) J
  rw : ∃ R : Array Value, W.heap[q]? = some (.cells R 3 (0, 0)) ∧ R.size = M + 1
  ro : W.cell? ⟨w.heap.size, I, none⟩ = some (.slice (some ⟨q, 0, none⟩) (M + 1) (M + 1))
  rq : r I = q
  dis : ∀ i, I < i → i ≤ N → r i ≠ q
  hq : w.heap.size + 2 ≤ q
  rge : ∀ i, I < i → i ≤ N → w.heap.size + 2 ≤ r i

theorem heap_set {W : World} {B : Nat} {cs : Array Value} {t : TypeId} (j : Nat) (u : Value) (h : W.heap[B]? = some (.cells cs t (0, 0))) : (W.setCell ⟨B, j, none⟩ u).heap[B]? = some (.cells (cs.setIfInBounds j u) t (0, 0)) := by
  obtain ⟨hlt, hk⟩ := Array.getElem?_eq_some_iff.1 h
  show (W.heap.modify B _)[B]? = _
  rw [Array.getElem?_eq_getElem (by rw [Array.size_modify]; exact hlt), Array.getElem_modify_self, hk]
  rfl
theorem cell_set_ne {W : World} {b j : Nat} {u : Value} {p : Addr} (h : p.block ≠ b) : (W.setCell ⟨b, j, none⟩ u).cell? p = W.cell? p := by
  unfold World.cell?
  rw [Below.heap_setCell W ⟨b, j, none⟩ u p.block h]
theorem cell_of {W : World} {b j : Nat} {cs : Array Value} {t : TypeId} (h : W.heap[b]? = some (.cells cs t (0, 0))) : W.cell? ⟨b, j, none⟩ = cs[j]? := by
  simp [World.cell?, h]
theorem frozen_of {W : World} {b j : Nat} {cs : Array Value} {t : TypeId} (h : W.heap[b]? = some (.cells cs t (0, 0))) : W.frozen? ⟨b, j, none⟩ = false := by
  simp [World.frozen?, h]

theorem Bo.drew {w W : World} {X Y : List Int} {N M : Nat} {a b : Option Addr} {ca cb : Nat} {r : Nat → Nat} {I : Nat} (h : Bo w W X Y N M a b ca cb r I) (n : Nat) : Bo w (W.drewN n) X Y N M a b ca cb r I :=
  ⟨⟨h.bel.os, h.bel.tape, h.bel.output, h.bel.size, h.bel.block⟩, h.sz, h.blk, h.tb, h.tab, h.rge⟩
theorem Bd.drew {w W : World} {X Y : List Int} {N M : Nat} {a b : Option Addr} {ca cb : Nat} {r : Nat → Nat} {I J q : Nat} (h : Bd w W X Y N M a b ca cb r I J q) (n : Nat) : Bd w (W.drewN n) X Y N M a b ca cb r I J q :=
  ⟨⟨h.bel.os, h.bel.tape, h.bel.output, h.bel.size, h.bel.block⟩, h.blk, h.tb, h.tab, h.rw, h.ro, h.rq, h.dis, h.hq, h.rge⟩

theorem Bd.drew1 {w W : World} {X Y : List Int} {N M : Nat} {a b : Option Addr} {ca cb : Nat} {r : Nat → Nat} {I J q : Nat} (h : Bd w W X Y N M a b ca cb r I J q) : Bd w W.drew X Y N M a b ca cb r I J q :=
  ⟨⟨h.bel.os, h.bel.tape, h.bel.output, h.bel.size, h.bel.block⟩, h.blk, h.tb, h.tab, h.rw, h.ro, h.rq, h.dis, h.hq, h.rge⟩

theorem Bo.start {w W : World} {X Y : List Int} {N M : Nat} {a b : Option Addr} {ca cb : Nat} {r : Nat → Nat} {I : Nat} (h : Bo w W X Y N M a b ca cb r (I + 1)) (hI : I ≤ N) (Z : Array Value) (hZ : Z.size = M + 1) :
    Bd w ((W.setCell ⟨w.heap.size, I, none⟩ (.slice (some ⟨W.heap.size, 0, none⟩) (M + 1) (M + 1))).alloc (.cells Z 3)) X Y N M a b ca cb (fun k => if k = I then W.heap.size else r k) I (M + 1) W.heap.size := by
  obtain ⟨T, hT, hTs⟩ := h.tb
  have hsz := h.sz
  obtain ⟨W1, hW1⟩ : ∃ W1, W.setCell ⟨w.heap.size, I, none⟩ (.slice (some ⟨W.heap.size, 0, none⟩) (M + 1) (M + 1)) = W1 := ⟨_, rfl⟩
  have hs1 : W1.heap.size = W.heap.size := by rw [← hW1]; simp [World.setCell]
  have hg : W1.heap[w.heap.size]? = some (.cells (T.setIfInBounds I (.slice (some ⟨W.heap.size, 0, none⟩) (M + 1) (M + 1))) 64 (0, 0)) := by rw [← hW1]; exact heap_set I _ hT
  have ho : ∀ k, k ≠ w.heap.size → W1.heap[k]? = W.heap[k]? := fun k hk => by rw [← hW1]; exact Below.heap_setCell W ⟨w.heap.size, I, none⟩ _ k hk
  have hb1 : Below w.heap.size w W1 := by rw [← hW1]; exact h.bel.setCell (p := ⟨w.heap.size, I, none⟩) (Nat.le_refl _) _
  rw [hW1]
  clear hW1
  have hB : Below W1.heap.size W1 (W1.alloc (.cells Z 3)) := (Below.refl _ W1).alloc (Nat.le_refl _) _
  have hg2 := (hB.block w.heap.size (by omega)).trans hg
  have hlt : ∀ i, I < i → i ≤ N → r i < W.heap.size := fun i h1 h2 => World.block_lt_of_cell? _ _ (h.tab i 0 h2 (by omega) (.inl (by omega))).2
  refine ⟨hb1.trans (hB.mono (by omega)), ?_, ⟨_, hg2, by simp [hTs]⟩, ?_, ⟨Z, ?_, hZ⟩, ?_, by simp, ?_, hsz, ?_⟩
  · rw [hB.block _ (by omega), ho _ (by omega)]; exact h.blk
  · intro i j hi hj hc
    have hii : I < i := by omega
    obtain ⟨t1, t2⟩ := h.tab i j hi hj (.inl hii)
    have l2 := hlt i hii hi
    have l3 := h.rge i hii hi
    have hr : (fun k => if k = I then W.heap.size else r k) i = r i := if_neg (by omega)
    refine ⟨?_, ?_⟩
    · rw [hr, cell_of hg2, Array.getElem?_setIfInBounds, if_neg (by omega), ← cell_of hT]
      exact t1
    · rw [hr, ← t2]
      unfold World.cell?
      rw [hB.block _ (by simp only; omega), ho _ (by simp only; omega)]
  · rw [← hs1]; exact World.alloc_heap_new W1 _
  · rw [cell_of hg2, Array.getElem?_setIfInBounds, if_pos rfl, if_pos (by omega)]
  · intro i h1 h2
    show (if i = I then W.heap.size else r i) ≠ W.heap.size
    rw [if_neg (by omega)]
    have := hlt i h1 h2
    omega
  · intro i h1 h2
    show _ ≤ (if i = I then W.heap.size else r i)
    rw [if_neg (by omega)]
    exact h.rge i h1 h2

theorem Bd.store {w W : World} {X Y : List Int} {N M : Nat} {a b : Option Addr} {ca cb : Nat} {r : Nat → Nat} {I J q : Nat} (h : Bd w W X Y N M a b ca cb r I (J + 1) q) (hI : I ≤ N) (hJ : J ≤ M) :
    Bd w (W.setCell ⟨q, J, none⟩ (.int .i64 (td X Y I J : Nat))) X Y N M a b ca cb r I J q := by
  obtain ⟨R, hR, hRs⟩ := h.rw
  have hq := h.hq
  obtain ⟨T, hT, hTs⟩ := h.tb
  refine ⟨h.bel.setCell (p := ⟨q, J, none⟩) (by simp; omega) _, ?_, ⟨T, ?_, hTs⟩, ?_, ⟨_, heap_set J _ hR, by simp [hRs]⟩, ?_, h.rq, h.dis, hq, h.rge⟩
  · rw [Below.heap_setCell _ _ _ _ (by simp; omega)]; exact h.blk
  · rw [Below.heap_setCell _ _ _ _ (by simp; omega)]; exact hT
  · intro i j hi hj hc
    by_cases e : i = I
    · subst e
      refine ⟨?_, ?_⟩
      · rw [cell_set_ne (by simp; omega), h.rq]; exact h.ro
      · rw [h.rq, cell_of (heap_set J _ hR), Array.getElem?_setIfInBounds]
        by_cases e2 : J = j
        · rw [if_pos e2, if_pos (by omega), e2]
        · rw [if_neg e2, ← cell_of hR, ← h.rq]
          exact (h.tab i j hi hj (.inr ⟨rfl, by omega⟩)).2
    · have hii : I < i := by omega
      obtain ⟨t1, t2⟩ := h.tab i j hi hj (.inl hii)
      exact ⟨by rw [cell_set_ne (by simp; omega)]; exact t1, by rw [cell_set_ne (h.dis i hii hi)]; exact t2⟩
  · rw [cell_set_ne (by simp; omega)]; exact h.ro

theorem Bd.done {w W : World} {X Y : List Int} {N M : Nat} {a b : Option Addr} {ca cb : Nat} {r : Nat → Nat} {I q : Nat} (h : Bd w W X Y N M a b ca cb r I 0 q) : Bo w W X Y N M a b ca cb r I := by
  obtain ⟨R, hR, hRs⟩ := h.rw
  have hl := (Array.getElem?_eq_some_iff.1 hR).1
  have hq := h.hq
  refine ⟨h.bel, by omega, h.blk, h.tb, fun i j hi hj hc => h.tab i j hi hj (by omega), fun i h1 h2 => ?_⟩
  by_cases e : i = I
  · rw [e, h.rq]; exact hq
  · exact h.rge i (by omega) h2

theorem Bd.wk {w W : World} {X Y : List Int} {N M : Nat} {a b : Option Addr} {ca cb : Nat} {r : Nat → Nat} {I J q : Nat} (h : Bd w W X Y N M a b ca cb r I J q) (ra : RS w (.slice a N ca) X) (rb : RS w (.slice b M cb) Y) (nx : X.length = N) (ny : Y.length = M) (hn : N ≤ 1000000) (hm : M ≤ 1000000) :
    Wk W (w.heap.size + 1) X Y N M 0 0 a b ca cb w.heap.size := ⟨h.blk, RS.below h.bel ra, RS.below h.bel rb, nx, ny, hn, hm⟩
theorem Bo.wk {w W : World} {X Y : List Int} {N M : Nat} {a b : Option Addr} {ca cb : Nat} {r : Nat → Nat} {I : Nat} (h : Bo w W X Y N M a b ca cb r I) (ra : RS w (.slice a N ca) X) (rb : RS w (.slice b M cb) Y) (nx : X.length = N) (ny : Y.length = M) (hn : N ≤ 1000000) (hm : M ≤ 1000000) :
    Wk W (w.heap.size + 1) X Y N M 0 0 a b ca cb w.heap.size := ⟨h.blk, RS.below h.bel ra, RS.below h.bel rb, nx, ny, hn, hm⟩

theorem infoR : ∃ i : TypeInfo, Try.prog.info? 64 = some i ∧ i.zero = some (.slice none 0 0) ∧ i.size = 1 ∧ i.bytes = 24 := by
  obtain ⟨i, hi, h1, h2, h3⟩ := info_parts (show (Try.prog.info? 64).map (fun i => (i.zero, i.size, i.bytes)) = some (some (.slice none 0 0), 1, 24) by kernel_rfl)
  exact ⟨i, hi, h1, h2, h3⟩
theorem infoN : ∃ i : TypeInfo, Try.prog.info? 3 = some i ∧ i.zero = some (.int .i64 0) ∧ i.size = 1 ∧ i.bytes = 8 := by
  obtain ⟨i, hi, h1, h2, h3⟩ := info_parts (show (Try.prog.info? 3).map (fun i => (i.zero, i.size, i.bytes)) = some (some (.int .i64 0), 1, 8) by kernel_rfl)
  exact ⟨i, hi, h1, h2, h3⟩
theorem mkR (N : Nat) (hN : N ≤ 1000001) : ∃ Z : Array Value, Z.size = N ∧ ∀ w : World, (Instr.makeSlice 61 (.int .i64 (N : Nat)) (.int .i64 (N : Nat))).run Try.prog w = .ok (.slice (some ⟨w.heap.size, 0, none⟩) N N) (w.alloc (.cells Z 64)) := by
  obtain ⟨i, hi, hz, hs, hb⟩ := infoR
  refine ⟨madeCells (Value.slice none 0 0).cells (N * 1), by rw [size_madeCells]; omega, fun w => ?_⟩
  have := run_makeSlice (P := Try.prog) w 61 64 i _ Try.underlying61 hi hz .i64 .i64 (N : Int) (N : Int) (by omega) (Int.le_refl _) (by rw [hs]; omega) (by rw [hb]; omega) (by omega)
  rw [hs, Int.toNat_natCast] at this
  exact this
theorem mkN (N : Nat) (hN : N ≤ 1000001) : ∃ Z : Array Value, Z.size = N ∧ ∀ w : World, (Instr.makeSlice 64 (.int .i64 (N : Nat)) (.int .i64 (N : Nat))).run Try.prog w = .ok (.slice (some ⟨w.heap.size, 0, none⟩) N N) (w.alloc (.cells Z 3)) := by
  obtain ⟨i, hi, hz, hs, hb⟩ := infoN
  refine ⟨madeCells (Value.int .i64 0).cells (N * 1), by rw [size_madeCells]; omega, fun w => ?_⟩
  have := run_makeSlice (P := Try.prog) w 64 3 i _ Try.underlying64 hi hz .i64 .i64 (N : Int) (N : Int) (by omega) (Int.le_refl _) (by rw [hs]; omega) (by rw [hb]; omega) (by omega)
  rw [hs, Int.toNat_natCast] at this
  exact this

end Go.Proofs.Ytlbgfcbhpmhhpab

/-
  newWalk: a walk that stands at the beginnings, its table worked out.
-/
set_option linter.unusedSimpArgs false
set_option linter.unusedVariables false
namespace Go.Proofs.Ytlbgfcbhpmhhpab
open Go.RowKit Go.Lib

set_option maxRecDepth 100000 in
set_option maxHeartbeats 8000000 in
theorem newWalk_in (w : World) (X Y : List Int) (N M : Nat) (a b : Option Addr) (ca cb : Nat) (ra : RS w (.slice a N ca) X) (rb : RS w (.slice b M cb) Y) (nx : X.length = N) (ny : Y.length = M) (hn : N ≤ 1000000) (hm : M ≤ 1000000) :
    Calls Try.prog 12 #[.slice a N ca, .slice b M cb] w fun e W => e = .returned (.pointer (some ⟨w.heap.size + 1, 0, none⟩)) ∧ ∃ r, Bo w W X Y N M a b ca cb r 0 := by
  obtain ⟨Z1, hZ1, mk1⟩ := mkR (N + 1) (by omega)
  obtain ⟨Z2, hZ2, mk2⟩ := mkN (M + 1) (by omega)
  have e1 : ((N + 1 : Nat) : Int) = (N : Int) + 1 := by omega
  have e2 : ((M + 1 : Nat) : Int) = (M : Int) + 1 := by omega
  simp only [e1] at mk1
  simp only [e2] at mk2
  clear e1 e2
  have Hra := hide ra
  have Hrb := hide rb
  have Hnx := hide nx
  have Hny := hide ny
  have start : Bo w ((w.alloc (.cells Z1 64)).alloc (wkO w N M a b ca cb)) X Y N M a b ca cb (fun _ => 0) (N + 1) := by
    have b1 : Below w.heap.size w (w.alloc (.cells Z1 64)) := (Below.refl _ w).alloc (Nat.le_refl _) _
    have b2 : Below (w.heap.size + 1) (w.alloc (.cells Z1 64)) ((w.alloc (.cells Z1 64)).alloc (wkO w N M a b ca cb)) := (Below.refl _ _).alloc (by simp) _
    refine ⟨b1.trans (b2.mono (by omega)), by simp, ?_, ⟨Z1, ?_, hZ1⟩, fun i j hi hj hc => by omega, fun i h1 h2 => by omega⟩
    · have := World.alloc_heap_new (w.alloc (.cells Z1 64)) (wkO w N M a b ca cb)
      rwa [World.size_alloc] at this
    · rw [b2.block _ (by omega)]; exact World.alloc_heap_new w _
  have Hst := hide start
  have hZ1' := hide hZ1
  have hZ2' := hide hZ2
  clear start ra rb nx ny hZ1 hZ2
  go_enter Try.func12, Try.ntmps12
  go_wp2
  go_loopw [6] (fun iv wr => ∃ (I : Nat) (r : Nat → Nat), I ≤ N + 1 ∧ iv = .int .i64 ((I : Int) - 1) ∧ Bo w wr X Y N M a b ca cb r I) (fun iv _ => ((RowKit.intOf iv) + 1).toNat)
  case atStart => exact ⟨N + 1, _, Nat.le_refl _, by simp, unhide Hst⟩
  case round =>
    obtain ⟨I, r, hI, rfl, hbo⟩ := hrel
    cases I with
    | zero =>
      go_wp2
      go_ret
      exact ⟨rfl, r, hbo⟩
    | succ I =>
      have e0 : ((I + 1 : Nat) : Int) - 1 = (I : Int) := by omega
      rw [e0]
      clear e0
      obtain ⟨T, hT, hTs⟩ := hbo.tb
      have c4 : wr.cell? ⟨w.heap.size + 1, 4, none⟩ = some (.slice (some ⟨w.heap.size, 0, none⟩) (N + 1) (N + 1)) := cell_of hbo.blk
      have cI : wr.cell? ⟨w.heap.size, I, none⟩ = some (T[I]'(by omega)) := by rw [cell_of hT]; simp
      have fI : wr.frozen? ⟨w.heap.size, I, none⟩ = false := frozen_of hT
      have hsz := hbo.sz
      have hp : w.heap.size + 1 < wr.heap.size := by omega
      have hg : w.heap.size < wr.heap.size := by omega
      have f1 : (I : Int) < ((N + 1 : Nat) : Int) := by omega
      have Hbo := hide hbo
      generalize T[I]'(by omega) = tI at *
      clear hbo hT
      go_wp2
      go_region
      have hbd := ((unhide Hbo).start (by omega) Z2 (unhide hZ2')).drew1
      obtain ⟨q, hq⟩ : ∃ q, wr.heap.size = q := ⟨_, rfl⟩
      rw [hq] at hbd ⊢
      generalize (fun k => if k = I then q else r k) = r' at hbd
      obtain ⟨W1, hW1⟩ : ∃ W1, ((wr.setCell ⟨w.heap.size, I, none⟩ (.slice (some ⟨q, 0, none⟩) (M + 1) (M + 1))).alloc (.cells Z2 3)).drew = W1 := ⟨_, rfl⟩
      rw [hW1] at hbd ⊢
      have Hbd := hide hbd
      clear hbd hW1 c4 cI fI hsz hp hg hq
      go_wp2
      go_loopw [7] (fun jv wr => ∃ J : Nat, J ≤ M + 1 ∧ jv = .int .i64 ((J : Int) - 1) ∧ Bd w wr X Y N M a b ca cb r' I J q) (fun jv _ => ((RowKit.intOf jv) + 1).toNat)
      case atStart => exact ⟨M + 1, Nat.le_refl _, by simp, unhide Hbd⟩
      case round =>
        obtain ⟨J, hJ, rfl, hbd⟩ := hrel
        cases J with
        | zero =>
          go_wp2
          go_roundw
          case rel => exact ⟨I, r', by omega, by simp, hbd.done⟩
          case measure => simp [RowKit.intOf]
        | succ J =>
          have e0 : ((J + 1 : Nat) : Int) - 1 = (J : Int) := by omega
          rw [e0]
          clear e0
          obtain ⟨T, hT, hTs⟩ := hbd.tb
          obtain ⟨R, hR, hRs⟩ := hbd.rw
          have c4 : wr.cell? ⟨w.heap.size + 1, 4, none⟩ = some (.slice (some ⟨w.heap.size, 0, none⟩) (N + 1) (N + 1)) := cell_of hbd.blk
          have cI := hbd.ro
          have cJ : wr.cell? ⟨q, J, none⟩ = some (R[J]'(by omega)) := by rw [cell_of hR]; simp
          have fJ : wr.frozen? ⟨q, J, none⟩ = false := frozen_of hR
          have f1 : (I : Int) < ((N + 1 : Nat) : Int) := by omega
          have f2 : (J : Int) < ((M + 1 : Nat) : Int) := by omega
          have hp := World.block_lt_of_cell? _ _ c4
          have hg := World.block_lt_of_cell? _ _ cI
          have hq := World.block_lt_of_cell? _ _ cJ
          simp only at hp hg hq
          have hle := fun n => hide (least_in ((hbd.drew n).wk (unhide Hra) (unhide Hrb) (unhide Hnx) (unhide Hny) hn hm) (hbd.drew n).tab (i := I) (j := J) (by omega) (by omega))
          have Hnd := hide hbd
          generalize R[J]'(by omega) = tJ at *
          obtain ⟨D, hD⟩ : ∃ D, td X Y I J = D := ⟨_, rfl⟩
          simp only [hD] at hle
          have hD' := hide hD
          clear hbd hT hR hD
          go_wp2
          go_region_with (go_at_call 23; refine (unhide (hle _)).mono ?_; rintro e w' ⟨rfl, nd, rfl⟩)
          all_goals
            go_wp2
            go_roundw
            case rel =>
              have hst := ((unhide Hnd).drew (1 + nd)).store (by omega) (by omega)
              rw [unhide hD'] at hst
              exact ⟨J, by omega, rfl, hst⟩
            case measure => simp [RowKit.intOf]

end Go.Proofs.Ytlbgfcbhpmhhpab

/-
  keep and replace: the walk goes on.
-/
set_option linter.unusedSimpArgs false
set_option linter.unusedVariables false
namespace Go.Proofs.Ytlbgfcbhpmhhpab
open Go.RowKit Go.Lib

/-- a walk in its place, and its table, below H -/
structure Ws (w0 : World) (H : Nat) (W : World) (X Y : List Int) (N M : Nat) (a b : Option Addr) (ca cb : Nat) (r : Nat → Nat) (i j : Nat) : Prop where
  bel : Below w0.heap.size w0 W
  sz : w0.heap.size + 2 ≤ H
  hH : H ≤ W.heap.size
  blk : W.heap[w0.heap.size + 1]? = some (.cells #[.slice a N ca, .slice b M cb, .int .i64 (i : Nat), .int .i64 (j : Nat), .slice (some ⟨w0.heap.size, 0, none⟩) (N + 1) (N + 1)] 63 (0, 0))
  tab : Tab W X Y N M w0.heap.size r 0 0
  rge : ∀ i, i ≤ N → w0.heap.size + 2 ≤ r i ∧ r i < H

theorem Ws.of {w W : World} {X Y : List Int} {N M : Nat} {a b : Option Addr} {ca cb : Nat} {r : Nat → Nat} (h : Bo w W X Y N M a b ca cb r 0) : Ws w W.heap.size W X Y N M a b ca cb r 0 0 :=
  ⟨h.bel, h.sz, Nat.le_refl _, h.blk, fun i j hi hj _ => h.tab i j hi hj (.inl (Nat.zero_le _)), fun i hi => ⟨h.rge i (Nat.zero_le _) hi, World.block_lt_of_cell? _ _ (h.tab i 0 hi (Nat.zero_le _) (.inl (Nat.zero_le _))).2⟩⟩

theorem Ws.later {w0 W W' : World} {H : Nat} {X Y : List Int} {N M : Nat} {a b : Option Addr} {ca cb : Nat} {r : Nat → Nat} {i j : Nat} (h : Ws w0 H W X Y N M a b ca cb r i j) (hb : Below H W W') : Ws w0 H W' X Y N M a b ca cb r i j := by
  have hsz := h.sz
  have hc : ∀ (p : Addr) (v : Value), p.block < H → W.cell? p = some v → W'.cell? p = some v := fun p v hp hv => by
    rw [← hv]; unfold World.cell?; rw [hb.block _ hp]
  refine ⟨h.bel.trans (hb.mono (by omega)), hsz, Nat.le_trans h.hH hb.size, (hb.block _ (by omega)).trans h.blk, fun i j hi hj hx => ?_, h.rge⟩
  obtain ⟨t1, t2⟩ := h.tab i j hi hj hx
  exact ⟨hc _ _ (by simp only; omega) t1, hc _ _ (h.rge i hi).2 t2⟩

theorem Ws.drew {w0 W : World} {H : Nat} {X Y : List Int} {N M : Nat} {a b : Option Addr} {ca cb : Nat} {r : Nat → Nat} {i j : Nat} (h : Ws w0 H W X Y N M a b ca cb r i j) (n : Nat) : Ws w0 H (W.drewN n) X Y N M a b ca cb r i j :=
  ⟨⟨h.bel.os, h.bel.tape, h.bel.output, h.bel.size, h.bel.block⟩, h.sz, h.hH, h.blk, h.tab, h.rge⟩

theorem Ws.set {w0 W : World} {H : Nat} {X Y : List Int} {N M : Nat} {a b : Option Addr} {ca cb : Nat} {r : Nat → Nat} {i j : Nat} (h : Ws w0 H W X Y N M a b ca cb r i j) (k : Nat) (u : Value) (i' j' : Nat)
    (hk : (#[.slice a N ca, .slice b M cb, .int .i64 (i : Nat), .int .i64 (j : Nat), .slice (some ⟨w0.heap.size, 0, none⟩) (N + 1) (N + 1)] : Array Value).setIfInBounds k u = #[.slice a N ca, .slice b M cb, .int .i64 (i' : Nat), .int .i64 (j' : Nat), .slice (some ⟨w0.heap.size, 0, none⟩) (N + 1) (N + 1)]) :
    Ws w0 H (W.setCell ⟨w0.heap.size + 1, k, none⟩ u) X Y N M a b ca cb r i' j' := by
  have hsz := h.sz
  refine ⟨h.bel.setCell (p := ⟨w0.heap.size + 1, k, none⟩) (by simp) _, hsz, by have := h.hH; simpa [World.setCell] using this, ?_, fun i j hi hj hx => ?_, h.rge⟩
  · rw [heap_set k u h.blk, hk]
  · obtain ⟨t1, t2⟩ := h.tab i j hi hj hx
    have := (h.rge i hi).1
    exact ⟨by rw [cell_set_ne (by simp)]; exact t1, by rw [cell_set_ne (by simp only; omega)]; exact t2⟩

theorem Ws.wk {w0 W : World} {H : Nat} {X Y : List Int} {N M : Nat} {a b : Option Addr} {ca cb : Nat} {r : Nat → Nat} {i j : Nat} (h : Ws w0 H W X Y N M a b ca cb r i j) (ra : RS w0 (.slice a N ca) X) (rb : RS w0 (.slice b M cb) Y) (nx : X.length = N) (ny : Y.length = M) (hn : N ≤ 1000000) (hm : M ≤ 1000000) :
    Wk W (w0.heap.size + 1) X Y N M i j a b ca cb w0.heap.size := ⟨h.blk, RS.below h.bel ra, RS.below h.bel rb, nx, ny, hn, hm⟩

/-- rows of Edits from H on stay as they are -/
def Okr (H : Nat) (W W' : World) : Prop := ∀ v n xs, W.ownsRow H 31 3 v n xs → W'.ownsRow H 31 3 v n xs
theorem Okr.set {H : Nat} {W W' : World} (h : Okr H W W') {p : Addr} (hp : p.block < H) (u : Value) : Okr H W (W'.setCell p u) := fun v n xs hv => ownsRow_setCell_below (h v n xs hv) hp u
theorem Okr.drew {H : Nat} {W W' : World} (h : Okr H W W') (n : Nat) : Okr H W (W'.drewN n) := fun v m xs hv => h v m xs hv

def cI (W : World) (p k : Nat) : Nat := (RowKit.intOf ((W.cell? ⟨p, k, none⟩).getD undef)).toNat
theorem Ws.cI2 {w0 W : World} {H : Nat} {X Y : List Int} {N M : Nat} {a b : Option Addr} {ca cb : Nat} {r : Nat → Nat} {i j : Nat} (h : Ws w0 H W X Y N M a b ca cb r i j) : cI W (w0.heap.size + 1) 2 = i ∧ cI W (w0.heap.size + 1) 3 = j := by
  unfold cI; rw [cell_of h.blk, cell_of h.blk]; simp [RowKit.intOf]

set_option maxRecDepth 100000 in
set_option maxHeartbeats 4000000 in
theorem keep_in {w0 w : World} {H : Nat} {X Y : List Int} {N M : Nat} {a b : Option Addr} {ca cb : Nat} {r : Nat → Nat} {i j : Nat} (h : Ws w0 H w X Y N M a b ca cb r i j) (ra : RS w0 (.slice a N ca) X) (rb : RS w0 (.slice b M cb) Y) (nx : X.length = N) (ny : Y.length = M) (hn : N ≤ 1000000) (hm : M ≤ 1000000) (hi : i ≤ N) (hj : j ≤ M) :
    Calls Try.prog 24 #[.pointer (some ⟨w0.heap.size + 1, 0, none⟩)] w fun e W => ∃ k : Nat, e = .returned (.int .i64 (k : Nat)) ∧ i + k ≤ N ∧ j + k ≤ M ∧ Ws w0 H W X Y N M a b ca cb r (i + k) (j + k) ∧ Okr H w W ∧ smB X Y (i + k) (j + k) = false ∧ gx X Y 0 0 [] i j = gx X Y k 0 [] (i + k) (j + k) := by
  obtain ⟨_, _, c2, _⟩ := (h.wk ra rb nx ny hn hm).facts
  have hp := World.block_lt_of_cell? _ _ c2
  simp only at hp
  have Hra := hide ra
  have Hrb := hide rb
  have Hnx := hide nx
  have Hny := hide ny
  have Hws := hide h
  have hsz := h.sz
  clear h ra rb nx ny
  go_enter Try.func24, Try.ntmps24
  go_wp2
  go_loopw [8] (fun _ wr => ∃ k : Nat, i + k ≤ N ∧ j + k ≤ M ∧ Ws w0 H wr X Y N M a b ca cb r (i + k) (j + k) ∧ Okr H w wr ∧ Hid (gx X Y 0 0 [] i j = gx X Y k 0 [] (i + k) (j + k))) (fun _ wr => N - cI wr (w0.heap.size + 1) 2)
  case atStart => exact ⟨0, hi, hj, unhide Hws, fun _ _ _ h => h, hide rfl⟩
  case round =>
    obtain ⟨k, hk1, hk2, hws, hok, hgx⟩ := hrel
    have hwk := hws.wk (unhide Hra) (unhide Hrb) (unhide Hnx) (unhide Hny) hn hm
    have hsame := hide (same_in hwk hk1 hk2)
    obtain ⟨_, _, c2, c3, _, f2, f3⟩ := hwk.facts
    have hp := World.block_lt_of_cell? _ _ c2
    simp only at hp
    have Hw := hide hws
    clear hws hwk
    cases hB : smB X Y (i + k) (j + k) with
    | true =>
      rw [hB] at hsame
      obtain ⟨l1, l2, hxy⟩ := smB_lt hB
      have l1' : i + k < N := by rw [← unhide Hnx]; exact l1
      have l2' : j + k < M := by rw [← unhide Hny]; exact l2
      have HB := hide hB
      clear hB hxy l1 l2
      go_wp2_with (go_at_call 32; refine (unhide hsame).mono ?_; rintro e w' ⟨rfl, nd, rfl⟩)
      go_roundw
      case rel =>
        refine ⟨k + 1, by omega, by omega, (((unhide Hw).drew nd).set 2 _ (i + (k + 1)) (j + k) ?_).set 3 _ (i + (k + 1)) (j + (k + 1)) ?_, ((hok.drew nd).set (by simp only; omega) _).set (by simp only; omega) _, hide ?_⟩
        · simp; omega
        · simp; omega
        · rw [unhide hgx, gx_keep (unhide HB)]; rfl
      case measure =>
        have e1 := ((((unhide Hw).drew nd).set 2 (.int .i64 ((i : Int) + (k : Int) + 1)) (i + (k + 1)) (j + k) (by simp; omega)).set 3 (.int .i64 ((j : Int) + (k : Int) + 1)) (i + (k + 1)) (j + (k + 1)) (by simp; omega)).cI2.1
        have e2 := (unhide Hw).cI2.1
        rw [e1, e2]
        omega
    | false =>
      rw [hB] at hsame
      have HB := hide hB
      clear hB
      go_wp2_with (go_at_call 32; refine (unhide hsame).mono ?_; rintro e w' ⟨rfl, nd, rfl⟩)
      go_ret
      refine ⟨k, ?_, hk1, hk2, (unhide Hw).drew nd, hok.drew nd, unhide HB, unhide hgx⟩
      show Ending.returned (Value.int .i64 _) = Ending.returned (Value.int .i64 _)
      congr 2
      omega

theorem slice3 (bb M cb j j' : Nat) (Y : List Int) (ny : Y.length = M) (h1 : j ≤ j') (h2 : j' ≤ M) (h3 : M ≤ cb) :
    ∃ v, (∀ w : World, (Instr.sliceAt 39 (.slice (some ⟨bb, 0, none⟩) M cb) (some (.int .i64 (j : Nat))) (some (.int .i64 (j' : Nat))) (some (.int .i64 (j' : Nat)))).run Try.prog w = .ok v w) ∧ ∀ W : World, RS W (.slice (some ⟨bb, 0, none⟩) M cb) Y → RS W v ((Y.drop j).take (j' - j)) := by
  obtain ⟨i0, hi, hz0, hz1, hz2⟩ := info_parts (show (Try.prog.info? 21).map (fun i => (i.zero, i.size, i.bytes)) = some (some (.int .i32 0), 1, 4) by kernel_rfl)
  have g1 : (j : Int) ≤ (j' : Int) := by omega
  have g2 : (j' : Int) ≤ (cb : Int) := by omega
  have g3 : j' ≤ cb := by omega
  refine ⟨.slice (if j' = j then some ⟨bb, 0, none⟩ else some ⟨bb, j, none⟩) (j' - j) (j' - j), fun w => ?_, fun W hr => ?_⟩
  · simp [Instr.sliceAt, Instr.slice, run_underlying Try.underlying39, sizeOf, typeInfo, hi, hz1, go_sem, g1, g2, g3, h1]
  · have hl : ((Y.drop j).take (j' - j)).length = j' - j := by simp; omega
    by_cases e : j' = j
    · refine .inl ⟨by rw [e]; simp, if j' = j then some ⟨bb, 0, none⟩ else some ⟨bb, j, none⟩, j' - j, ?_⟩
      rw [show j' - j = 0 by omega]
    · refine .inr ⟨bb, j, j' - j, by rw [if_neg e, hl], fun t ht => ?_⟩
      rw [hl] at ht
      rcases hr with ⟨rfl, _⟩ | ⟨b', off, cap, e', hc⟩
      · simp at ny; omega
      · simp at e'
        obtain ⟨⟨rfl, rfl⟩, _, _⟩ := e'
        have := hc (j + t) (by omega)
        rw [Nat.zero_add] at this
        rw [this]
        congr 3
        rw [List.getElem?_take, if_pos (by omega), List.getElem?_drop]

theorem full_of {Y : List Int} {i j i' j' : Nat} (h1 : i ≤ i') (h2 : j ≤ j') (h3 : j' ≤ Y.length) (h : i + j < i' + j') : full (i' - i) ((Y.drop j).take (j' - j)) = true := by
  unfold full
  by_cases e : i < i'
  · have : 0 < i' - i := by omega
    simp [this]
  · have h5 : 0 < ((Y.drop j).take (j' - j)).length := by simp; omega
    cases hl : (Y.drop j).take (j' - j) with
    | nil => rw [hl] at h5; simp at h5
    | cons x l => simp
theorem take_more {Y : List Int} {j j' : Nat} (h : j ≤ j') (hj : j' < Y.length) : (Y.drop j).take (j' + 1 - j) = (Y.drop j).take (j' - j) ++ [Y[j']] := by
  have e : j' + 1 - j = (j' - j) + 1 := by omega
  rw [e, List.take_add_one, List.getElem?_drop, show j + (j' - j) = j' by omega, List.getElem?_eq_getElem hj]
  rfl

set_option maxRecDepth 100000 in
set_option maxHeartbeats 4000000 in
theorem replace_in {w0 w : World} {H : Nat} {X Y : List Int} {N M : Nat} {a : Option Addr} {bb ca cb : Nat} {r : Nat → Nat} {i j : Nat} (h : Ws w0 H w X Y N M a (some ⟨bb, 0, none⟩) ca cb r i j) (ra : RS w0 (.slice a N ca) X) (rb : RS w0 (.slice (some ⟨bb, 0, none⟩) M cb) Y) (nx : X.length = N) (ny : Y.length = M) (hn : N ≤ 1000000) (hm : M ≤ 1000000) (hcb : M ≤ cb) (hi : i ≤ N) (hj : j ≤ M) (h0 : smB X Y i j = false) (hE : ¬ (i = N ∧ j = M)) :
    Calls Try.prog 26 #[.pointer (some ⟨w0.heap.size + 1, 0, none⟩)] w fun e W => ∃ (i' j' : Nat), e = .returned (.tuple #[.int .i64 ((i' - i : Nat) : Nat), .string (runesBytes ((Y.drop j).take (j' - j)))]) ∧ i ≤ i' ∧ j ≤ j' ∧ i' ≤ N ∧ j' ≤ M ∧ i + j < i' + j' ∧ Ws w0 H W X Y N M a (some ⟨bb, 0, none⟩) ca cb r i' j' ∧ Okr H w W ∧ ∀ k, gx X Y k 0 [] i j = (k, i' - i, (Y.drop j).take (j' - j)) :: gx X Y 0 0 [] i' j' := by
  obtain ⟨_, _, c2, c3, _⟩ := (h.wk ra rb nx ny hn hm).facts
  have hp := World.block_lt_of_cell? _ _ c2
  simp only at hp
  have Hra := hide ra
  have Hrb := hide rb
  have Hnx := hide nx
  have Hny := hide ny
  have Hws := hide h
  have H0 := hide h0
  have HE := hide hE
  have hsz := h.sz
  clear h ra rb nx ny h0 hE
  go_enter Try.func26, Try.ntmps26
  go_wp2
  go_quiet (fail)
  go_wp2
  go_loopw [14] (fun _ wr => ∃ i' j' : Nat, i ≤ i' ∧ j ≤ j' ∧ i' ≤ N ∧ j' ≤ M ∧ Ws w0 H wr X Y N M a (some ⟨bb, 0, none⟩) ca cb r i' j' ∧ Okr H w wr ∧ Hid (∀ k, gx X Y k 0 [] i j = gx X Y k (i' - i) ((Y.drop j).take (j' - j)) i' j')) (fun _ wr => N + M - (cI wr (w0.heap.size + 1) 2 + cI wr (w0.heap.size + 1) 3))
  case atStart => exact ⟨i, j, Nat.le_refl _, Nat.le_refl _, hi, hj, (unhide Hws).drew _, (show Okr H w w from fun _ _ _ h => h).drew _, hide (by simp)⟩
  case round =>
    obtain ⟨i', j', g1, g2, g3, g4, hws, hok, hgx⟩ := hrel
    have hwk := fun n => (hws.drew n).wk (unhide Hra) (unhide Hrb) (unhide Hnx) (unhide Hny) hn hm
    have hwk0 := hws.wk (unhide Hra) (unhide Hrb) (unhide Hnx) (unhide Hny) hn hm
    have hsame := hide (same_in hwk0 g3 g4)
    have hend := fun n => hide (ended_in (hwk n) g3 g4)
    have hmd := fun n => hide (mayDrop_in (hwk n) (hws.drew n).tab g3 g4)
    obtain ⟨_, c1, c2, c3, _, f2, f3⟩ := hwk0.facts
    have hp := World.block_lt_of_cell? _ _ c2
    simp only at hp
    have Hw := hide hws
    clear hws hwk hwk0
    cases hB : smB X Y i' j' with
    | true =>
      rw [hB] at hsame
      have HB := hide hB
      clear hB hend hmd
      obtain ⟨sv, hsl, hrs0⟩ := slice3 bb M cb j j' Y (unhide Hny) g2 g4 hcb
      have hrs := fun n => hide (hrs0 (wr.drewN n) (RS.below ((unhide Hw).drew n).bel (unhide Hrb)))
      clear hrs0
      go_wp2_with (go_at_call 32; refine (unhide hsame).mono ?_; rintro e w' ⟨rfl, nd, rfl⟩)
      go_quiet ((go_at_call 34; refine (text_in sv _ _ (unhide (hrs _))).mono ?_; rintro e w'' ⟨rfl, rfl⟩; exact ⟨rfl, _, rfl⟩))
      go_wp2
      go_ret2
      have hlt : i + j < i' + j' := by
        rcases Nat.lt_or_ge (i + j) (i' + j') with h | h
        · exact h
        · exfalso
          obtain rfl : i = i' := by omega
          obtain rfl : j = j' := by omega
          have x := unhide H0; rw [unhide HB] at x; cases x
      refine ⟨i', j', ?_, g1, g2, g3, g4, hlt, ?_, ?_, fun k => ?_⟩
      · have e : ((i' - i : Nat) : Int) = (i' : Int) - (i : Int) := by omega
        rw [e]
        rfl
      · first | exact (unhide Hw).drew _ | exact ((unhide Hw).drew _).drew _ | exact (((unhide Hw).drew _).drew _).drew _
      · first | exact hok.drew _ | exact (hok.drew _).drew _ | exact ((hok.drew _).drew _).drew _
      · rw [unhide hgx k]
        exact gx_close (.inl (unhide HB)) _ _ _ (full_of g1 g2 (by rw [unhide Hny]; exact g4) hlt)
    | false =>
      rw [hB] at hsame
      have HB := hide hB
      clear hB
      by_cases hen : i' = N ∧ j' = M
      · have hde : (decide (i' = N) && decide (j' = M)) = true := by simp [hen]
        simp only [hde] at hend
        obtain ⟨sv, hsl, hrs0⟩ := slice3 bb M cb j j' Y (unhide Hny) g2 g4 hcb
        have hrs := fun n => hide (hrs0 (wr.drewN n) (RS.below ((unhide Hw).drew n).bel (unhide Hrb)))
        clear hrs0 hde hmd
        obtain ⟨rfl, rfl⟩ := hen
        go_wp2_with (first | (go_at_call 32; refine (unhide hsame).mono ?_; rintro e w' ⟨rfl, nd, rfl⟩) | (go_at_call 25; refine (unhide (hend _)).mono ?_; rintro e w' ⟨rfl, nd2, rfl⟩))
        go_quiet ((go_at_call 34; refine (text_in sv _ _ (unhide (hrs _))).mono ?_; rintro e w'' ⟨rfl, rfl⟩; exact ⟨rfl, _, rfl⟩))
        go_wp2
        go_ret2
        have hlt : i + j < i' + j' := by
          rcases Nat.lt_or_ge (i + j) (i' + j') with h | h
          · exact h
          · exfalso
            obtain rfl : i = i' := by omega
            obtain rfl : j = j' := by omega
            exact unhide HE ⟨rfl, rfl⟩
        refine ⟨i', j', ?_, g1, g2, g3, g4, hlt, ?_, ?_, fun k => ?_⟩
        · have e : ((i' - i : Nat) : Int) = (i' : Int) - (i : Int) := by omega
          rw [e]
          rfl
        · first | exact (unhide Hw).drew _ | exact ((unhide Hw).drew _).drew _ | exact (((unhide Hw).drew _).drew _).drew _
        · first | exact hok.drew _ | exact (hok.drew _).drew _ | exact ((hok.drew _).drew _).drew _
        · rw [unhide hgx k]
          exact gx_close (.inr ⟨(unhide Hnx).symm, (unhide Hny).symm⟩) _ _ _ (full_of g1 g2 (by rw [unhide Hny]; exact g4) hlt)
      · have hde : (decide (i' = N) && decide (j' = M)) = false := by
          by_cases h : i' = N
          · have h2 : ¬ j' = M := fun e => hen ⟨h, e⟩
            simp [h2]
          · simp [h]
        simp only [hde] at hend
        have Hen := hide hen
        clear hde hen
        cases hMD : mdB X Y i' j' with
        | true =>
          simp only [hMD] at hmd
          have HMD := hide hMD
          have hlt : i' < N := by
            have h := hMD
            simp [mdB] at h
            rw [← unhide Hnx]; exact h.1
          clear hMD
          go_wp2_with (first | (go_at_call 32; refine (unhide hsame).mono ?_; rintro e w' ⟨rfl, nd, rfl⟩) | (go_at_call 25; refine (unhide (hend _)).mono ?_; rintro e w' ⟨rfl, nd2, rfl⟩) | (go_at_call 33; refine (unhide (hmd _)).mono ?_; rintro e w' ⟨rfl, nd3, rfl⟩))
          have hs := ((unhide Hw).drew (nd + nd2 + nd3)).set 2 (.int .i64 ((i' : Int) + 1)) (i' + 1) j' (by simp)
          refine ⟨⟨i' + 1, j', by omega, g2, by omega, g4, hs, (hok.drew _).set (by simp only; omega) _, hide (fun k => ?_)⟩, ?_⟩
          · rw [unhide hgx k, gx_drop (by rw [unhide Hny]; exact g4) (unhide HB) (unhide HMD), show i' - i + 1 = i' + 1 - i by omega]
          · obtain ⟨a1, a2⟩ := hs.cI2
            obtain ⟨b1, b2⟩ := (unhide Hw).cI2
            rw [a1, a2, b1, b2]
            omega
        | false =>
          simp only [hMD] at hmd
          have HMD := hide hMD
          clear hMD
          go_wp2_with (first | (go_at_call 32; refine (unhide hsame).mono ?_; rintro e w' ⟨rfl, nd, rfl⟩) | (go_at_call 25; refine (unhide (hend _)).mono ?_; rintro e w' ⟨rfl, nd2, rfl⟩) | (go_at_call 33; refine (unhide (hmd _)).mono ?_; rintro e w' ⟨rfl, nd3, rfl⟩))
          have hly := fun k d t => gx_lay (x := X) (y := Y) (i := i') (j := j') (by rw [unhide Hnx]; exact g3) (by rw [unhide Hny]; exact g4) (unhide HB) (unhide HMD) (by rw [unhide Hnx, unhide Hny]; exact unhide Hen) k d t
          have hlt' : j' < Y.length := (hly 0 0 []).1
          have hlt : j' < M := by rw [← unhide Hny]; exact hlt'
          have hs := ((unhide Hw).drew (nd + nd2 + nd3)).set 3 (.int .i64 ((j' : Int) + 1)) i' (j' + 1) (by simp)
          refine ⟨⟨i', j' + 1, g1, by omega, g3, by omega, hs, (hok.drew _).set (by simp only; omega) _, hide (fun k => ?_)⟩, ?_⟩
          · rw [unhide hgx k, take_more g2 hlt']
            exact (hly k _ _).2
          · obtain ⟨a1, a2⟩ := hs.cI2
            obtain ⟨b1, b2⟩ := (unhide Hw).cI2
            rw [a1, a2, b1, b2]
            omega

end Go.Proofs.Ytlbgfcbhpmhhpab
