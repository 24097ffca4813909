/-
  The law DiffOwn's rows while they are gone on from.
-/
import Derived.Test.YtlbgfcbhpmhhpabZO1
set_option linter.unusedSimpArgs false
set_option linter.unusedVariables false
namespace Go.Proofs.Ytlbgfcbhpmhhpab
open Go.RowKit Go.Lib
namespace O

theorem outer_cell {W : World} {B e b m c : Nat} {v : Nat → Value} (h : W.ownsRow B e 1 (.slice (some ⟨b, 0, none⟩) m c) m ((List.range m).map v)) {j : Nat} (hj : j < m) : W.cell? ⟨b, j, none⟩ = some (v j) := by
  rw [h.cellAt j (by omega)]
  simp [hj]

def Lv (ys : List Value) (N K j : Nat) : Prop := (∀ q, q < N → ys[q * 3]? = some (.int .i64 (100 + (j : Int)))) ∧ ∀ q, N ≤ q → q < N + K → ys[q * 3]? = some (.int .i64 (200 + (j : Int)))

theorem Lv.more {ys : List Value} {N K j : Nat} {b d : Value} (h : Lv ys N K j) (hl : ys.length = (N + K) * 3) : Lv (ys ++ [.int .i64 (200 + (j : Int)), b, d]) N (K + 1) j := by
  refine ⟨fun q hq => ?_, fun q h1 h2 => ?_⟩
  · rw [List.getElem?_append_left (by omega)]; exact h.1 q hq
  · by_cases e : q = N + K
    · subst e
      rw [List.getElem?_append_right (by omega), hl, Nat.sub_self]
      rfl
    · rw [List.getElem?_append_left (by omega)]; exact h.2 q h1 (by omega)

structure G4 (W1 : World) (B5 : Nat) (v0 : Nat → Value) (n0 : Nat → Nat) (lv : Value) (i : Nat) (v : Nat → Value) (n : Nat → Nat) (xs : Nat → List Value) (mv : Value) (W : World) : Prop where
  fm : Fm W1 (6 + i) v n xs W
  out : W.ownsRow W1.heap.size 23 1 lv 6 ((List.range 6).map v0)
  more : W.ownsRow B5 23 1 mv i ((List.range i).map (fun j => v (6 + j)))
  old : ∀ b, lv.ownBlock = some b → b < B5
  lo : W1.heap.size ≤ B5
  hi : B5 ≤ W.heap.size
  same : ∀ j, j < 6 → v j = v0 j ∧ n j = n0 j
  sd : ∀ j, j < 6 → ∀ q, q < n0 j → (xs j)[q * 3]? = some (.int .i64 (100 + (j : Int)))
  se : ∀ j, j < i → n (6 + j) = n0 j + 20 ∧ Lv (xs (6 + j)) (n0 j) 20 j

structure G5 (W1 : World) (B5 : Nat) (v0 : Nat → Value) (n0 : Nat → Nat) (lv : Value) (i k : Nat) (v : Nat → Value) (n : Nat → Nat) (xs : Nat → List Value) (mv : Value) (W : World) : Prop where
  fm : Fm W1 (6 + i + 1) v n xs W
  out : W.ownsRow W1.heap.size 23 1 lv 6 ((List.range 6).map v0)
  more : W.ownsRow B5 23 1 mv i ((List.range i).map (fun j => v (6 + j)))
  old : ∀ b, lv.ownBlock = some b → b < B5
  lo : W1.heap.size ≤ B5
  hi : B5 ≤ W.heap.size
  same : ∀ j, j < 6 → v j = v0 j ∧ n j = n0 j
  sd : ∀ j, j < 6 → ∀ q, q < n0 j → (xs j)[q * 3]? = some (.int .i64 (100 + (j : Int)))
  se : ∀ j, j < i → n (6 + j) = n0 j + 20 ∧ Lv (xs (6 + j)) (n0 j) 20 j
  cur : n (6 + i) = n0 i + k ∧ Lv (xs (6 + i)) (n0 i) k i

variable {W1 W W' : World} {B5 i k : Nat} {v0 : Nat → Value} {n0 : Nat → Nat} {lv mv : Value} {v : Nat → Value} {n : Nat → Nat} {xs : Nat → List Value}

theorem map_upd (v : Nat → Value) (i : Nat) (x : Value) : (List.range i).map (fun j => upd v (6 + i) x (6 + j)) = (List.range i).map (fun j => v (6 + j)) := by
  apply List.map_congr_left
  intro j hj
  have := List.mem_range.1 hj
  rw [upd_ne _ _ (by omega)]

theorem G4.start (h : Fm W1 6 v n xs W) (hO : W.ownsRow W1.heap.size 23 1 lv 6 ((List.range 6).map v)) (hS : Sd n xs 6 0) : G4 W1 W.heap.size v n lv 0 v n xs (.slice none 0 0) W :=
  ⟨h, hO, World.ownsRow_nil _ _ _ _, fun b e => (hO.lt b e).2, h.bel.size, Nat.le_refl _, fun j hj => ⟨rfl, rfl⟩, fun j hj q hq => hS.1 j hj q hq, fun j hj => by omega⟩

theorem G4.begin (h : G4 W1 B5 v0 n0 lv i v n xs mv W) (hi : i < 6) : G5 W1 B5 v0 n0 lv i 0 (upd v (6 + i) (v0 i)) (upd n (6 + i) (n0 i)) (upd xs (6 + i) (xs i)) mv W := by
  have hf := h.fm.again hi
  rw [(h.same i hi).1, (h.same i hi).2] at hf
  refine ⟨hf, h.out, by rw [map_upd]; exact h.more, h.old, h.lo, h.hi, fun j hj => ?_, fun j hj q hq => ?_, fun j hj => ?_, ?_⟩
  · rw [upd_ne _ _ (by omega), upd_ne _ _ (by omega)]; exact h.same j hj
  · rw [upd_ne _ _ (by omega)]; exact h.sd j hj q hq
  · rw [upd_ne _ _ (by omega), upd_ne _ _ (by omega)]; exact h.se j hj
  · rw [upd_same, upd_same]; exact ⟨rfl, fun q hq => h.sd i hi q hq, fun q h1 h2 => by omega⟩

theorem G5.alloc (h : G5 W1 B5 v0 n0 lv i k v n xs mv W) (o : Obj) : G5 W1 B5 v0 n0 lv i k v n xs mv (W.alloc o) :=
  ⟨h.fm.alloc o, h.out.alloc o, h.more.alloc o, h.old, h.lo, by have := h.hi; simp; omega, h.same, h.sd, h.se, h.cur⟩

theorem G5.len (h : G5 W1 B5 v0 n0 lv i k v n xs mv W) : (xs (6 + i)).length = (n0 i + k) * 3 := by
  have := (h.fm.own (6 + i) (by omega)).1
  rw [h.cur.1] at this
  exact this

/-- the row with what it now is -/
theorem G5.put {b d : Value} {u : Value} (h : G5 W1 B5 v0 n0 lv i k v n xs mv W) (hi : i < 6)
    (hf : Fm W1 (6 + i + 1) (upd v (6 + i) u) (upd n (6 + i) (n (6 + i) + 1)) (upd xs (6 + i) (xs (6 + i) ++ [.int .i64 (200 + (i : Int)), b, d])) W')
    (ho : W'.ownsRow W1.heap.size 23 1 lv 6 ((List.range 6).map v0)) (hm : W'.ownsRow B5 23 1 mv i ((List.range i).map (fun j => v (6 + j)))) (hsz : B5 ≤ W'.heap.size) :
    G5 W1 B5 v0 n0 lv i (k + 1) (upd v (6 + i) u) (upd n (6 + i) (n (6 + i) + 1)) (upd xs (6 + i) (xs (6 + i) ++ [.int .i64 (200 + (i : Int)), b, d])) mv W' := by
  refine ⟨hf, ho, by rw [map_upd]; exact hm, h.old, h.lo, hsz, fun j hj => ?_, fun j hj q hq => ?_, fun j hj => ?_, ?_⟩
  · rw [upd_ne _ _ (by omega), upd_ne _ _ (by omega)]; exact h.same j hj
  · rw [upd_ne _ _ (by omega)]; exact h.sd j hj q hq
  · rw [upd_ne _ _ (by omega), upd_ne _ _ (by omega)]; exact h.se j hj
  · rw [upd_same, upd_same]
    exact ⟨by have := h.cur.1; omega, h.cur.2.more h.len⟩

theorem G5.fits {b d : Value} {g cap : Nat} (h : G5 W1 B5 v0 n0 lv i k v n xs mv W) (hi : i < 6) (hv : v (6 + i) = .slice (some ⟨g, 0, none⟩) (n (6 + i)) cap)
    (ho : W'.ownsRow W1.heap.size 31 3 (.slice (some ⟨g, 0, none⟩) (n (6 + i) + 1) cap) (n (6 + i) + 1) (xs (6 + i) ++ [.int .i64 (200 + (i : Int)), b, d])) (hg : W.grownBy W' (some g)) :
    G5 W1 B5 v0 n0 lv i (k + 1) (upd v (6 + i) (.slice (some ⟨g, 0, none⟩) (n (6 + i) + 1) cap)) (upd n (6 + i) (n (6 + i) + 1)) (upd xs (6 + i) (xs (6 + i) ++ [.int .i64 (200 + (i : Int)), b, d])) mv W' := by
  have hrow := h.fm.own (6 + i) (by omega)
  have hob : (v (6 + i)).ownBlock = some g := by rw [hv]; rfl
  have r1 := rows_two h.out hrow (by decide)
  have r2 := rows_two h.more hrow (by decide)
  rw [hob] at r1 r2
  exact h.put hi (h.fm.fits hi (by rw [h.cur.1, (h.same i hi).2]; omega) hv ho hg) (h.out.kept hg r1) (h.more.kept hg r2) (Nat.le_trans h.hi hg.size)

theorem kept_none {W W' : World} {B e s q : Nat} {u : Value} {us : List Value} (h : W.ownsRow B e s u q us) (hg : W.grownBy W' none) : W'.ownsRow B e s u q us :=
  h.kept hg (by
    by_cases e : u.ownBlock = none
    · exact .inl e
    · exact .inr e)

theorem G5.grows {b d : Value} {u : Value} (h : G5 W1 B5 v0 n0 lv i k v n xs mv W) (hi : i < 6)
    (ho : W'.ownsRow W.heap.size 31 3 u (n (6 + i) + 1) (xs (6 + i) ++ [.int .i64 (200 + (i : Int)), b, d])) (hg : W.grownBy W' none) :
    G5 W1 B5 v0 n0 lv i (k + 1) (upd v (6 + i) u) (upd n (6 + i) (n (6 + i) + 1)) (upd xs (6 + i) (xs (6 + i) ++ [.int .i64 (200 + (i : Int)), b, d])) mv W' :=
  h.put hi (h.fm.grows ho hg) (kept_none h.out hg) (kept_none h.more hg) (Nat.le_trans h.hi hg.size)

theorem G5.done {mv' : Value} (h : G5 W1 B5 v0 n0 lv i 20 v n xs mv W) (ho : W'.ownsRow B5 23 1 mv' (i + 1) ((List.range i).map (fun j => v (6 + j)) ++ [v (6 + i)])) (hg : W.grownBy W' mv.ownBlock) : G4 W1 B5 v0 n0 lv (i + 1) v n xs mv' W' := by
  have far : lv.ownBlock = none ∨ lv.ownBlock ≠ mv.ownBlock := by
    by_cases e : lv.ownBlock = none
    · exact .inl e
    · refine .inr fun e2 => ?_
      obtain ⟨g, hg⟩ := Option.ne_none_iff_exists'.1 e
      have l1 := h.old g hg
      have l2 := (h.more.lt g (e2 ▸ hg)).1
      omega
  refine ⟨h.fm.other h.more h.lo (by decide) hg, h.out.kept hg far, ?_, h.old, h.lo, Nat.le_trans h.hi hg.size, h.same, h.sd, fun j hj => ?_⟩
  · rw [List.range_succ, List.map_append]; exact ho
  · by_cases e : j = i
    · subst e; exact h.cur
    · exact h.se j (by omega)

end O
end Go.Proofs.Ytlbgfcbhpmhhpab
