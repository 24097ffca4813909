/-
  The document's own Make: its loop.
-/
import Derived.Test.YtlbgfcbhpmhhpaaZF1
import Derived.Test.YtlbgfcbhpmhhpaaZDR
import Derived.Test.YtlbgfcbhpmhhpaaZRefUse
import Derived.Test.YtlbgfcbhpmhhpaaZRefEnc
import Derived.Deep.RegionWith
set_option linter.unusedSimpArgs false
set_option linter.unusedVariables false
namespace Go.Proofs.Ytlbgfcbhpmhhpaa
open Go.RowKit Go.Lib

theorem refGood_in (s : ByteArray) (hs : s.size ≤ 1000000000) (w : World) :
    Calls Try.prog 28 #[.string s] w fun e W => e = .returned (.bool (goodB s)) ∧ Below w.heap.size w W := by
  unfold goodB
  have h := fun W => hide (refBadAt_in s hs W)
  generalize firstBad s (allL s) = F at *
  go_enter Try.func28, Try.ntmps28
  go_wp2_with fail
  refine (unhide (h _)).mono ?_
  rintro e W ⟨rfl, hB⟩
  go_wp2
  go_ret
  exact ⟨rfl, hB⟩

theorem gx_sameG {x y : List Int} {i j : Nat} (h : smB x y i j = true) (k d : Nat) (t : List Int) : gx x y k d t i j = if full d t then (k, d, t) :: gx x y 1 0 [] (i + 1) (j + 1) else gx x y (k + 1) d t (i + 1) (j + 1) := by
  obtain ⟨hi, hj, e⟩ := smB_lt h
  unfold gx
  rw [List.drop_eq_getElem_cons hi, List.drop_eq_getElem_cons hj, e, go_same]
theorem gx_endG (x y : List Int) (k d : Nat) (t : List Int) : gx x y k d t x.length y.length = if full d t then [(k, d, t)] else [] := by
  unfold gx; rw [List.drop_length, List.drop_length, go_end]
theorem runesBytes_nil : runesBytes [] = ⟨#[]⟩ := rfl
theorem runesBytes_pos {t : List Int} (h : t ≠ []) : 0 < (runesBytes t).size := by
  cases t with
  | nil => exact absurd rfl h
  | cons a t =>
    have e : (runesBytes (a :: t)).size = ((a :: t).flatMap encL).length := by rw [← runesBytes_list]; simp
    have := encL_pos a
    rw [e, List.flatMap_cons, List.length_append]
    omega
theorem toList_pos {s : ByteArray} (h : 0 < s.size) : (s.toList == ByteArray.toList ⟨#[]⟩) = false := by
  rw [beq_eq_false_iff_ne]
  intro e
  have := toList_inj e
  rw [this] at h
  exact absurd h (by decide)
theorem toList_pos' {s : ByteArray} (h : 0 < s.size) : s.toList.isEmpty = false := by
  have := toList_pos h
  cases hl : s.toList with
  | nil => rw [hl] at this; simp [ByteArray.toList_eq] at this
  | cons a l => rfl
theorem runesBytes_snoc (t : List Int) (b : Int) : runesBytes (t ++ [b]) = runesBytes t ++ Utf8.encode b := by
  rw [runesBytes_append]
  congr 1
theorem Box3.set {W : World} {b : Nat} {v0 v1 v2 : Value} (h : Box3 W b v0 v1 v2) (k : Nat) (u u0 u1 u2 : Value) (hk : (#[v0, v1, v2] : Array Value).setIfInBounds k u = #[u0, u1, u2]) : Box3 (W.setCell ⟨b, k, none⟩ u) b u0 u1 u2 := by
  unfold Box3; rw [heap_set k u h, hk]
theorem Box3.frz {W : World} {b : Nat} {v0 v1 v2 : Value} (h : Box3 W b v0 v1 v2) (j : Nat) : W.frozen? ⟨b, j, none⟩ = false := frozen_of h

/-- the loop's state: the box, the changes so far -/
structure Rm (W0 : World) (H : Nat) (W : World) (X Y : List Int) (N M : Nat) (ov : Value) (i j : Nat) (L : List Ed) (k d : Nat) (t : List Int) : Prop where
  bel : Below W0.heap.size W0 W
  hH : H = W0.heap.size + 1
  hz : H ≤ W.heap.size
  hi : i ≤ N
  hj : j ≤ M
  hk : k ≤ i
  hd : d ≤ i
  ht : t.length ≤ j
  hL : L.length ≤ i + j
  row : W.ownsRow H 32 3 ov L.length (edsC L)
  box : Box3 W W0.heap.size (.int .i64 (k : Nat)) (.int .i64 (d : Nat)) (.string (runesBytes t))
  eq : L ++ (gx X Y k d t i j).map edOf = mkL X Y

theorem Rm.drew {W0 W : World} {H : Nat} {X Y : List Int} {N M : Nat} {ov : Value} {i j : Nat} {L : List Ed} {k d : Nat} {t : List Int} (h : Rm W0 H W X Y N M ov i j L k d t) (n : Nat) : Rm W0 H (W.drewN n) X Y N M ov i j L k d t :=
  ⟨⟨h.bel.os, h.bel.tape, h.bel.output, h.bel.size, h.bel.block⟩, h.hH, h.hz, h.hi, h.hj, h.hk, h.hd, h.ht, h.hL, h.row, h.box, h.eq⟩

theorem owns_form {W : World} {B e m n : Nat} {v : Value} {xs : List Value} (h : W.ownsRow B e m v n xs) : ∃ a c, v = .slice a n c := by
  rcases h.2 with ⟨rfl, rfl⟩ | ⟨g, cap, cur, rfl, _⟩
  · exact ⟨_, _, rfl⟩
  · exact ⟨_, _, rfl⟩

theorem Rm.later {W0 W W' : World} {H : Nat} {X Y : List Int} {N M : Nat} {ov : Value} {i j : Nat} {L : List Ed} {k d : Nat} {t : List Int} (h : Rm W0 H W X Y N M ov i j L k d t) (hb : Below W.heap.size W W') : Rm W0 H W' X Y N M ov i j L k d t :=
  ⟨h.bel.trans (hb.mono h.bel.size), h.hH, Nat.le_trans h.hz hb.size, h.hi, h.hj, h.hk, h.hd, h.ht, h.hL, owns_below h.row hb, h.box.below hb, h.eq⟩

/-- the box is written -/
theorem Rm.put {W0 W : World} {H : Nat} {X Y : List Int} {N M : Nat} {ov : Value} {i j : Nat} {L : List Ed} {k d : Nat} {t : List Int} (h : Rm W0 H W X Y N M ov i j L k d t) (c : Nat) (u : Value) (i' j' k' d' : Nat) (t' : List Int)
    (hk : (#[.int .i64 (k : Nat), .int .i64 (d : Nat), .string (runesBytes t)] : Array Value).setIfInBounds c u = #[.int .i64 (k' : Nat), .int .i64 (d' : Nat), .string (runesBytes t')])
    (b1 : i' ≤ N) (b2 : j' ≤ M) (b3 : k' ≤ i') (b4 : d' ≤ i') (b5 : t'.length ≤ j') (b6 : i + j ≤ i' + j') (he : gx X Y k d t i j = gx X Y k' d' t' i' j') :
    Rm W0 H (W.setCell ⟨W0.heap.size, c, none⟩ u) X Y N M ov i' j' L k' d' t' := by
  have hH := h.hH
  have hL := h.hL
  refine ⟨h.bel.setCell (p := ⟨W0.heap.size, c, none⟩) (Nat.le_refl _) _, hH, by have := h.hz; simpa [World.setCell] using this, b1, b2, b3, b4, b5, by omega, ownsRow_setCell_below h.row (by simp only; omega) _, h.box.set c u _ _ _ hk, ?_⟩
  rw [← he]; exact h.eq

theorem Rm.drop {W0 W : World} {H : Nat} {X Y : List Int} {N M : Nat} {ov : Value} {i j : Nat} {L : List Ed} {k d : Nat} {t : List Int} (h : Rm W0 H W X Y N M ov i j L k d t) (nx : X.length = N) (ny : Y.length = M) (h1 : smB X Y i j = false) (h2 : mdB X Y i j = true) :
    Rm W0 H (W.setCell ⟨W0.heap.size, 1, none⟩ (.int .i64 ((d : Int) + 1))) X Y N M ov (i + 1) j L k (d + 1) t := by
  have hk := h.hk
  have hd := h.hd
  have hlt : i < N := by simp [mdB] at h2; omega
  exact h.put 1 _ _ _ _ _ _ (by simp) hlt h.hj (by omega) (by omega) h.ht (by omega) (gx_drop (by rw [ny]; exact h.hj) h1 h2 k d t)

theorem Rm.lay {W0 W : World} {H : Nat} {X Y : List Int} {N M : Nat} {ov : Value} {i j : Nat} {L : List Ed} {k d : Nat} {t : List Int} (h : Rm W0 H W X Y N M ov i j L k d t) (nx : X.length = N) (ny : Y.length = M) (h1 : smB X Y i j = false) (h2 : mdB X Y i j = false) (h3 : ¬ (i = N ∧ j = M)) (y : Int) (hy : Y[j]? = some y) :
    Rm W0 H (W.setCell ⟨W0.heap.size, 2, none⟩ (.string (runesBytes t ++ Utf8.encode y))) X Y N M ov i (j + 1) L k d (t ++ [y]) := by
  have hk := h.hk
  have hd := h.hd
  have ht := h.ht
  obtain ⟨hlt, he⟩ := gx_lay (x := X) (y := Y) (i := i) (j := j) (by rw [nx]; exact h.hi) (by rw [ny]; exact h.hj) h1 h2 (by rw [nx, ny]; exact h3) k d t
  rw [List.getElem?_eq_getElem hlt] at hy
  have hy' : Y[j] = y := Option.some.inj hy
  rw [hy'] at he
  exact h.put 2 _ _ _ _ _ _ (by rw [← runesBytes_snoc]; simp) h.hi (by omega) hk hd (by simp; omega) (by omega) he

theorem Rm.keep {W0 W : World} {H : Nat} {X Y : List Int} {N M : Nat} {ov : Value} {i j : Nat} {L : List Ed} {k d : Nat} {t : List Int} (h : Rm W0 H W X Y N M ov i j L k d t) (nx : X.length = N) (ny : Y.length = M) (h1 : smB X Y i j = true) (h2 : full d t = false) :
    Rm W0 H (W.setCell ⟨W0.heap.size, 0, none⟩ (.int .i64 ((k : Int) + 1))) X Y N M ov (i + 1) (j + 1) L (k + 1) d t := by
  have hk := h.hk
  have hd := h.hd
  have ht := h.ht
  obtain ⟨a1, a2, _⟩ := smB_lt h1
  exact h.put 0 _ _ _ _ _ _ (by simp) (by omega) (by omega) (by omega) (by omega) (by omega) (by omega) (by rw [gx_sameG h1, if_neg (by rw [h2]; decide)])

/-- the Edit is appended, the box cleared, one kept -/
theorem Rm.next {W0 W W' : World} {H : Nat} {X Y : List Int} {N M : Nat} {ov ov' : Value} {i j : Nat} {L : List Ed} {k d : Nat} {t : List Int} (h : Rm W0 H W X Y N M ov i j L k d t) (nx : X.length = N) (ny : Y.length = M) (h1 : smB X Y i j = true) (h2 : full d t = true)
    (hB : Below H W W') (hrow : W'.ownsRow H 32 3 ov' (L.length + 1) (edsC L ++ edC ((k : Int), (d : Int), runesBytes t))) :
    Rm W0 H ((((W'.setCell ⟨W0.heap.size, 0, none⟩ (.int .i64 0)).setCell ⟨W0.heap.size, 1, none⟩ (.int .i64 0)).setCell ⟨W0.heap.size, 2, none⟩ (.string ⟨#[]⟩)).setCell ⟨W0.heap.size, 0, none⟩ (.int .i64 1)) X Y N M ov' (i + 1) (j + 1) (L ++ [edOf (k, d, t)]) 1 0 [] := by
  have hH := h.hH
  have hz := h.hz
  have hL := h.hL
  obtain ⟨a1, a2, _⟩ := smB_lt h1
  have hbx : Box3 W' W0.heap.size (.int .i64 (k : Nat)) (.int .i64 (d : Nat)) (.string (runesBytes t)) := (hB.block _ (by omega)).trans h.box
  have hb' : Below W0.heap.size W0 W' := h.bel.trans (hB.mono (by omega))
  have lt : (⟨W0.heap.size, 0, none⟩ : Addr).block < H := by simp only; omega
  have r0 := ownsRow_setCell_below hrow (a := ⟨W0.heap.size, 0, none⟩) (by simp only; omega) (.int .i64 0)
  have r1 := ownsRow_setCell_below r0 (a := ⟨W0.heap.size, 1, none⟩) (by simp only; omega) (.int .i64 0)
  have r2 := ownsRow_setCell_below r1 (a := ⟨W0.heap.size, 2, none⟩) (by simp only; omega) (.string ⟨#[]⟩)
  have r3 := ownsRow_setCell_below r2 (a := ⟨W0.heap.size, 0, none⟩) (by simp only; omega) (.int .i64 1)
  refine ⟨(((hb'.setCell (p := ⟨W0.heap.size, 0, none⟩) (Nat.le_refl _) _).setCell (p := ⟨W0.heap.size, 1, none⟩) (Nat.le_refl _) _).setCell (p := ⟨W0.heap.size, 2, none⟩) (Nat.le_refl _) _).setCell (p := ⟨W0.heap.size, 0, none⟩) (Nat.le_refl _) _, hH, ?_, by omega, by omega, by omega, by omega, by simp, by simp; omega, ?_, ?_, ?_⟩
  · have := Nat.le_trans hz hB.size
    simpa [World.setCell] using this
  · rw [edsC_append, List.length_append]
    exact r3
  · exact ((((hbx.set 0 _ (.int .i64 0) (.int .i64 (d : Nat)) (.string (runesBytes t)) (by simp)).set 1 _ (.int .i64 0) (.int .i64 0) (.string (runesBytes t)) (by simp)).set 2 _ (.int .i64 0) (.int .i64 0) (.string ⟨#[]⟩) (by simp)).set 0 _ _ _ _ (by simp [runesBytes_nil]))
  · rw [← h.eq, gx_sameG h1, if_pos h2]
    simp

end Go.Proofs.Ytlbgfcbhpmhhpaa
