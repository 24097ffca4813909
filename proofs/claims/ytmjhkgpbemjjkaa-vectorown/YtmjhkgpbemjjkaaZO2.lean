/-
  The law VectorOwn's rows while they are gone on from.
-/
import Derived.Test.YtmjhkgpbemjjkaaZO1
set_option linter.unusedSimpArgs false
set_option linter.unusedVariables false
namespace Go.Proofs.Ytmjhkgpbemjjkaa
open Go.RowKit Go.Lib
namespace O

theorem outer_cell {W : World} {B e b m c : Nat} {v : Nat → Value} (h : W.ownsRow B e 1 (.slice (some ⟨b, 0, none⟩) m c) m ((List.range m).map v)) {j : Nat} (hj : j < m) : W.cell? ⟨b, j, none⟩ = some (v j) := by
  rw [h.cellAt j (by omega)]
  simp [hj]

def Lv (ys : List Value) (N K j : Nat) : Prop := (∀ q, q < N → Is ys q (1000 + (j : Int)) q) ∧ ∀ q, N ≤ q → q < N + K → Is ys q (2000 + (j : Int)) ((q : Int) - (N : Int))

theorem Lv.more {ys : List Value} {N K j : Nat} (h : Lv ys N K j) (hl : ys.length = (N + K) * 2) : Lv (ys ++ [.int .i64 (2000 + (j : Int)), .int .i64 (K : Nat)]) N (K + 1) j := by
  refine ⟨fun q hq => ?_, fun q h1 h2 => ?_⟩
  · have := h.1 q hq
    exact ⟨by rw [List.getElem?_append_left (by omega)]; exact this.1, by rw [List.getElem?_append_left (by omega)]; exact this.2⟩
  · by_cases e : q = N + K
    · subst e
      refine ⟨?_, ?_⟩
      · rw [List.getElem?_append_right (by omega), hl, Nat.sub_self]; rfl
      · rw [List.getElem?_append_right (by omega), hl, show (N + K) * 2 + 1 - (N + K) * 2 = 1 by omega, show ((N + K : Nat) : Int) - (N : Int) = ((K : Nat) : Int) by omega]; rfl
    · have := h.2 q h1 (by omega)
      exact ⟨by rw [List.getElem?_append_left (by omega)]; exact this.1, by rw [List.getElem?_append_left (by omega)]; exact this.2⟩

structure G4 (x0 : List Value) (W1 : World) (B5 : Nat) (v0 : Nat → Value) (n0 : Nat → Nat) (lv : Value) (i : Nat) (v : Nat → Value) (n : Nat → Nat) (xs : Nat → List Value) (mv : Value) (W : World) : Prop where
  fm : Fm W1 true (18 + i) v n xs W
  out : W.ownsRow W1.heap.size 23 1 lv 18 ((List.range 18).map v0)
  more : W.ownsRow B5 23 1 mv i ((List.range i).map (fun j => v (18 + j)))
  old : ∀ b, lv.ownBlock = some b → b < B5
  lo : W1.heap.size ≤ B5
  hi : B5 ≤ W.heap.size
  same : ∀ j, j < 18 → v j = v0 j ∧ n j = n0 j
  sd : ∀ j, j < 18 → ∀ q, q < n0 j → Is (xs j) q (1000 + (j : Int)) q
  mark : v 100 = v0 100 ∧ n 100 = n0 100 ∧ xs 100 = x0
  se : ∀ j, j < i → n (18 + j) = n0 j + 20 ∧ Lv (xs (18 + j)) (n0 j) 20 j

structure G5 (x0 : List Value) (W1 : World) (B5 : Nat) (v0 : Nat → Value) (n0 : Nat → Nat) (lv : Value) (i k : Nat) (v : Nat → Value) (n : Nat → Nat) (xs : Nat → List Value) (mv : Value) (W : World) : Prop where
  fm : Fm W1 true (18 + i + 1) v n xs W
  out : W.ownsRow W1.heap.size 23 1 lv 18 ((List.range 18).map v0)
  more : W.ownsRow B5 23 1 mv i ((List.range i).map (fun j => v (18 + j)))
  old : ∀ b, lv.ownBlock = some b → b < B5
  lo : W1.heap.size ≤ B5
  hi : B5 ≤ W.heap.size
  same : ∀ j, j < 18 → v j = v0 j ∧ n j = n0 j
  sd : ∀ j, j < 18 → ∀ q, q < n0 j → Is (xs j) q (1000 + (j : Int)) q
  mark : v 100 = v0 100 ∧ n 100 = n0 100 ∧ xs 100 = x0
  se : ∀ j, j < i → n (18 + j) = n0 j + 20 ∧ Lv (xs (18 + j)) (n0 j) 20 j
  cur : n (18 + i) = n0 i + k ∧ Lv (xs (18 + i)) (n0 i) k i

variable {x0 : List Value} {W1 W W' : World} {B5 i k : Nat} {v0 : Nat → Value} {n0 : Nat → Nat} {lv mv : Value} {v : Nat → Value} {n : Nat → Nat} {xs : Nat → List Value}

theorem map_upd (v : Nat → Value) (i : Nat) (x : Value) : (List.range i).map (fun j => upd v (18 + i) x (18 + j)) = (List.range i).map (fun j => v (18 + j)) := by
  apply List.map_congr_left
  intro j hj
  have := List.mem_range.1 hj
  rw [upd_ne _ _ (by omega)]

theorem G4.start (h : Fm W1 true 18 v n xs W) (hO : W.ownsRow W1.heap.size 23 1 lv 18 ((List.range 18).map v)) (hS : Sd n xs 18 0) : G4 (xs 100) W1 W.heap.size v n lv 0 v n xs (.slice none 0 0) W :=
  ⟨h, hO, World.ownsRow_nil _ _ _ _, fun b e => (hO.lt b e).2, h.bel.size, Nat.le_refl _, fun j hj => ⟨rfl, rfl⟩, fun j hj q hq => hS.1 j hj q hq, ⟨rfl, rfl, rfl⟩, fun j hj => by omega⟩

theorem G4.begin (h : G4 x0 W1 B5 v0 n0 lv i v n xs mv W) (hi : i < 18) : G5 x0 W1 B5 v0 n0 lv i 0 (upd v (18 + i) (v0 i)) (upd n (18 + i) (n0 i)) (upd xs (18 + i) (xs i)) mv W := by
  have hf := h.fm.again hi
  rw [(h.same i hi).1, (h.same i hi).2] at hf
  refine ⟨hf, h.out, by rw [map_upd]; exact h.more, h.old, h.lo, h.hi, fun j hj => ?_, fun j hj q hq => ?_, ?_, fun j hj => ?_, ?_⟩
  · rw [upd_ne _ _ (by omega), upd_ne _ _ (by omega)]; exact h.same j hj
  · rw [upd_ne _ _ (by omega)]; exact h.sd j hj q hq
  · rw [upd_ne _ _ (by omega), upd_ne _ _ (by omega), upd_ne _ _ (by omega)]; exact h.mark
  · rw [upd_ne _ _ (by omega), upd_ne _ _ (by omega)]; exact h.se j hj
  · rw [upd_same, upd_same]; exact ⟨rfl, fun q hq => h.sd i hi q hq, fun q h1 h2 => by omega⟩

theorem G5.alloc (h : G5 x0 W1 B5 v0 n0 lv i k v n xs mv W) (o : Obj) : G5 x0 W1 B5 v0 n0 lv i k v n xs mv (W.alloc o) :=
  ⟨h.fm.alloc o, h.out.alloc o, h.more.alloc o, h.old, h.lo, by have := h.hi; simp; omega, h.same, h.sd, h.mark, h.se, h.cur⟩

theorem G5.len (h : G5 x0 W1 B5 v0 n0 lv i k v n xs mv W) : (xs (18 + i)).length = (n0 i + k) * 2 := by
  have := (h.fm.own (18 + i) (.inl (by omega))).1
  rw [h.cur.1] at this
  exact this

/-- the row with what it now is -/
theorem G5.put {u : Value} (h : G5 x0 W1 B5 v0 n0 lv i k v n xs mv W) (hi : i < 18)
    (hf : Fm W1 true (18 + i + 1) (upd v (18 + i) u) (upd n (18 + i) (n (18 + i) + 1)) (upd xs (18 + i) (xs (18 + i) ++ [.int .i64 (2000 + (i : Int)), .int .i64 (k : Nat)])) W')
    (ho : W'.ownsRow W1.heap.size 23 1 lv 18 ((List.range 18).map v0)) (hm : W'.ownsRow B5 23 1 mv i ((List.range i).map (fun j => v (18 + j)))) (hsz : B5 ≤ W'.heap.size) :
    G5 x0 W1 B5 v0 n0 lv i (k + 1) (upd v (18 + i) u) (upd n (18 + i) (n (18 + i) + 1)) (upd xs (18 + i) (xs (18 + i) ++ [.int .i64 (2000 + (i : Int)), .int .i64 (k : Nat)])) mv W' := by
  refine ⟨hf, ho, by rw [map_upd]; exact hm, h.old, h.lo, hsz, fun j hj => ?_, fun j hj q hq => ?_, ?_, fun j hj => ?_, ?_⟩
  · rw [upd_ne _ _ (by omega), upd_ne _ _ (by omega)]; exact h.same j hj
  · rw [upd_ne _ _ (by omega)]; exact h.sd j hj q hq
  · rw [upd_ne _ _ (by omega), upd_ne _ _ (by omega), upd_ne _ _ (by omega)]; exact h.mark
  · rw [upd_ne _ _ (by omega), upd_ne _ _ (by omega)]; exact h.se j hj
  · rw [upd_same, upd_same]
    exact ⟨by have := h.cur.1; omega, h.cur.2.more h.len⟩

theorem G5.fits {g cap : Nat} (h : G5 x0 W1 B5 v0 n0 lv i k v n xs mv W) (hi : i < 18) (hv : v (18 + i) = .slice (some ⟨g, 0, none⟩) (n (18 + i)) cap)
    (ho : W'.ownsRow W1.heap.size 25 2 (.slice (some ⟨g, 0, none⟩) (n (18 + i) + 1) cap) (n (18 + i) + 1) (xs (18 + i) ++ [.int .i64 (2000 + (i : Int)), .int .i64 (k : Nat)])) (hg : W.grownBy W' (some g)) :
    G5 x0 W1 B5 v0 n0 lv i (k + 1) (upd v (18 + i) (.slice (some ⟨g, 0, none⟩) (n (18 + i) + 1) cap)) (upd n (18 + i) (n (18 + i) + 1)) (upd xs (18 + i) (xs (18 + i) ++ [.int .i64 (2000 + (i : Int)), .int .i64 (k : Nat)])) mv W' := by
  have hrow := h.fm.own (18 + i) (.inl (by omega))
  have hob : (v (18 + i)).ownBlock = some g := by rw [hv]; rfl
  have r1 := rows_two h.out hrow (by decide)
  have r2 := rows_two h.more hrow (by decide)
  rw [hob] at r1 r2
  exact h.put hi (h.fm.fits hi (by rw [h.cur.1, (h.same i hi).2]; omega) hv ho hg) (h.out.kept hg r1) (h.more.kept hg r2) (Nat.le_trans h.hi hg.size)

theorem kept_none {W W' : World} {B e s q : Nat} {u : Value} {us : List Value} (h : W.ownsRow B e s u q us) (hg : W.grownBy W' none) : W'.ownsRow B e s u q us :=
  h.kept hg (by
    by_cases e : u.ownBlock = none
    · exact .inl e
    · exact .inr e)

theorem G5.grows {u : Value} (h : G5 x0 W1 B5 v0 n0 lv i k v n xs mv W) (hi : i < 18)
    (ho : W'.ownsRow W.heap.size 25 2 u (n (18 + i) + 1) (xs (18 + i) ++ [.int .i64 (2000 + (i : Int)), .int .i64 (k : Nat)])) (hg : W.grownBy W' none) :
    G5 x0 W1 B5 v0 n0 lv i (k + 1) (upd v (18 + i) u) (upd n (18 + i) (n (18 + i) + 1)) (upd xs (18 + i) (xs (18 + i) ++ [.int .i64 (2000 + (i : Int)), .int .i64 (k : Nat)])) mv W' :=
  h.put hi (h.fm.grows ho hg) (kept_none h.out hg) (kept_none h.more hg) (Nat.le_trans h.hi hg.size)

theorem G5.done {mv' : Value} (h : G5 x0 W1 B5 v0 n0 lv i 20 v n xs mv W) (ho : W'.ownsRow B5 23 1 mv' (i + 1) ((List.range i).map (fun j => v (18 + j)) ++ [v (18 + i)])) (hg : W.grownBy W' mv.ownBlock) : G4 x0 W1 B5 v0 n0 lv (i + 1) v n xs mv' W' := by
  have far : lv.ownBlock = none ∨ lv.ownBlock ≠ mv.ownBlock := by
    by_cases e : lv.ownBlock = none
    · exact .inl e
    · refine .inr fun e2 => ?_
      obtain ⟨g, hg⟩ := Option.ne_none_iff_exists'.1 e
      have l1 := h.old g hg
      have l2 := (h.more.lt g (e2 ▸ hg)).1
      omega
  refine ⟨h.fm.other h.more h.lo (by decide) hg, h.out.kept hg far, ?_, h.old, h.lo, Nat.le_trans h.hi hg.size, h.same, h.sd, h.mark, fun j hj => ?_⟩
  · rw [List.range_succ, List.map_append]; exact ho
  · by_cases e : j = i
    · subst e; exact h.cur
    · exact h.se j (by omega)

end O
end Go.Proofs.Ytmjhkgpbemjjkaa
