/-
  The document's own Front.
-/
import Derived.Test.YtjiphechhfifgaaZXK
import Derived.Test.YtjiphechhfifgaaZXU
import Derived.Deep.RegionWith
import Derived.Test.YtjiphechhfifgaaZFG1

set_option linter.unusedSimpArgs false
set_option linter.unusedVariables false
namespace Go.Proofs.Ytjiphechhfifgaa
open Go.RowKit Go.Lib

/-- its cells: rows, counts, heard -/
def arr51 (vr vc : Nat → Value) (hd : Nat → Bool) : Array Value := ((List.range 51).map fun i => if i < 17 then vr i else if i < 34 then vc (i - 17) else .bool (hd (i - 34))).toArray
theorem arr51_r (vr vc : Nat → Value) (hd : Nat → Bool) (k : Nat) (h : k < 17) : (arr51 vr vc hd)[k]? = some (vr k) := by
  unfold arr51
  rw [List.getElem?_toArray, List.getElem?_map, List.getElem?_range (by omega)]
  simp [h]
theorem arr51_c (vr vc : Nat → Value) (hd : Nat → Bool) (k : Nat) (h : k < 17) : (arr51 vr vc hd)[17 + k]? = some (vc k) := by
  unfold arr51
  rw [List.getElem?_toArray, List.getElem?_map, List.getElem?_range (by omega)]
  simp only [Option.map_some]
  rw [if_neg (by omega), if_pos (by omega), show 17 + k - 17 = k by omega]
theorem arr51_h (vr vc : Nat → Value) (hd : Nat → Bool) (k : Nat) (h : k < 17) : (arr51 vr vc hd)[34 + k]? = some (.bool (hd k)) := by
  unfold arr51
  rw [List.getElem?_toArray, List.getElem?_map, List.getElem?_range (by omega)]
  simp only [Option.map_some]
  rw [if_neg (by omega), if_neg (by omega), show 34 + k - 34 = k by omega]
def upd {α : Type} (f : Nat → α) (k : Nat) (x : α) : Nat → α := fun j => if j = k then x else f j
theorem arr51_size (vr vc : Nat → Value) (hd : Nat → Bool) : (arr51 vr vc hd).size = 51 := by simp [arr51]
theorem arr51_get (vr vc : Nat → Value) (hd : Nat → Bool) (k : Nat) (h : k < 51) : (arr51 vr vc hd)[k]? = some (if k < 17 then vr k else if k < 34 then vc (k - 17) else .bool (hd (k - 34))) := by
  unfold arr51
  rw [List.getElem?_toArray, List.getElem?_map, List.getElem?_range h]
  rfl
theorem arr51_none (vr vc : Nat → Value) (hd : Nat → Bool) (k : Nat) (h : ¬ k < 51) : (arr51 vr vc hd)[k]? = none := by
  rw [Array.getElem?_eq_none_iff, arr51_size]; omega
theorem arr51_set (vr vc vr' vc' : Nat → Value) (hd hd' : Nat → Bool) (k : Nat) (x : Value) (h : k < 51) (hk : (arr51 vr' vc' hd')[k]? = some x) (ho : ∀ j, j < 51 → j ≠ k → (arr51 vr' vc' hd')[j]? = (arr51 vr vc hd)[j]?) : (arr51 vr vc hd).setIfInBounds k x = arr51 vr' vc' hd' := by
  apply Array.ext_getElem?
  intro j
  rw [Array.getElem?_setIfInBounds, arr51_size]
  by_cases hj : k = j
  · subst hj; rw [if_pos rfl, if_pos h, hk]
  · rw [if_neg hj]
    by_cases h5 : j < 51
    · exact (ho j h5 (Ne.symm hj)).symm
    · rw [arr51_none _ _ _ _ h5, arr51_none _ _ _ _ h5]
theorem arr51_setr (vr vc : Nat → Value) (hd : Nat → Bool) (k : Nat) (x : Value) (h : k < 17) : (arr51 vr vc hd).setIfInBounds k x = arr51 (upd vr k x) vc hd := by
  refine arr51_set _ _ _ _ _ _ k x (by omega) (by rw [arr51_r _ _ _ _ h]; simp [upd]) (fun j hj hn => ?_)
  rw [arr51_get _ _ _ _ hj, arr51_get _ _ _ _ hj]
  simp only [upd, if_neg hn]
theorem arr51_setc (vr vc : Nat → Value) (hd : Nat → Bool) (k : Nat) (x : Value) (h : k < 17) : (arr51 vr vc hd).setIfInBounds (17 + k) x = arr51 vr (upd vc k x) hd := by
  refine arr51_set _ _ _ _ _ _ (17 + k) x (by omega) (by rw [arr51_c _ _ _ _ h]; simp [upd]) (fun j hj hn => ?_)
  rw [arr51_get _ _ _ _ hj, arr51_get _ _ _ _ hj]
  by_cases h3 : j < 17
  · rw [if_pos h3, if_pos h3]
  · rw [if_neg h3, if_neg h3]
    by_cases h4 : j < 34
    · rw [if_pos h4, if_pos h4]; unfold upd; rw [if_neg (by omega)]
    · rw [if_neg h4, if_neg h4]
theorem arr51_seth (vr vc : Nat → Value) (hd : Nat → Bool) (k : Nat) (x : Bool) (h : k < 17) : (arr51 vr vc hd).setIfInBounds (34 + k) (.bool x) = arr51 vr vc (upd hd k x) := by
  refine arr51_set _ _ _ _ _ _ (34 + k) _ (by omega) (by rw [arr51_h _ _ _ _ h]; simp [upd]) (fun j hj hn => ?_)
  rw [arr51_get _ _ _ _ hj, arr51_get _ _ _ _ hj]
  by_cases h3 : j < 17
  · rw [if_pos h3, if_pos h3]
  · rw [if_neg h3, if_neg h3]
    by_cases h4 : j < 34
    · rw [if_pos h4, if_pos h4]
    · rw [if_neg h4, if_neg h4]; unfold upd; rw [if_neg (by omega)]
/-- a vector that lies in blocks of which P holds -/
structure EW (P : Nat → Prop) (W : World) (v : Value) (s : Nat → Int) : Prop where
  row : OwD W 0 v (vec s)
  pk : ∀ k, v.ownBlock = some k → P k
theorem EW.kp {P N : Nat → Prop} {W W' : World} {v : Value} {s : Nat → Int} (h : EW P W v s) (k : Kp N W W') (hn : ∀ i, N i → ¬ P i) : EW P W' v s := ⟨owd_kp h.row k (fun i hi e => hn i e (h.pk i hi)), h.pk⟩
theorem EW.mono {P P' : Nat → Prop} {W : World} {v : Value} {s : Nat → Int} (h : EW P W v s) (hp : ∀ i, P i → P' i) : EW P' W v s := ⟨h.row, fun k hk => hp k (h.pk k hk)⟩
/-- it is written in its own cells -/
theorem EW.own {P : Nat → Prop} {W W' : World} {v : Value} {s : Nat → Int} {r : Nat} {vs : Array Value} (h : EW P W v s) (hx : Bx W r 59 vs) (k : Kp (fun i => i = r) W W') : EW P W' v s := ⟨owd_kp h.row k (fun i hi e => by
  obtain ⟨c, fz, hc⟩ := ownsRow_kind h.row i hi
  subst e
  unfold Bx at hx
  rw [hx] at hc
  simp at hc), h.pk⟩
structure DA (P : Nat → Prop) (W : World) (r : Nat) (vr vc : Nat → Value) (S : StF) : Prop where
  box : Bx W r 59 (arr51 vr vc (fun k => (S (k : Int)).isSome))
  rr : ∀ k, k < 17 → EW P W (vr k) (hdR S (k : Int))
  rc : ∀ k, k < 17 → EW P W (vc k) (usR S (k : Int))
  pr : P r
def DF (P : Nat → Prop) (W : World) (r : Nat) (S : StF) : Prop := ∃ vr vc, DA P W r vr vc S ∧ (∀ k, (S k).isSome = true → 1 ≤ k ∧ k ≤ 16) ∧ ∀ k, Good (hdR S k) ∧ Good (usR S k)
theorem DF.kp {P N : Nat → Prop} {W W' : World} {r : Nat} {S : StF} (h : DF P W r S) (k : Kp N W W') (hn : ∀ i, N i → ¬ P i) : DF P W' r S := by
  obtain ⟨vr, vc, h1, h2⟩ := h
  exact ⟨vr, vc, ⟨h1.box.kp k (fun e => hn _ e h1.pr), fun j hj => (h1.rr j hj).kp k hn, fun j hj => (h1.rc j hj).kp k hn, h1.pr⟩, h2⟩
theorem DF.below {P : Nat → Prop} {W W' : World} {r : Nat} {S : StF} (h : DF P W r S) (hb : Below W.heap.size W W') : DF P W' r S := h.kp (N := fun _ => False) (Kp.of_below hb) (fun _ h => h.elim)
theorem DF.mono {P P' : Nat → Prop} {W : World} {r : Nat} {S : StF} (h : DF P W r S) (hp : ∀ i, P i → P' i) : DF P' W r S := by
  obtain ⟨vr, vc, h1, h2⟩ := h
  exact ⟨vr, vc, ⟨h1.box, fun j hj => (h1.rr j hj).mono hp, fun j hj => (h1.rc j hj).mono hp, hp _ h1.pr⟩, h2⟩
theorem DF.lt {P : Nat → Prop} {W : World} {r : Nat} {S : StF} (h : DF P W r S) : DF (fun i => P i ∧ i < W.heap.size) W r S := by
  obtain ⟨vr, vc, h1, h2⟩ := h
  exact ⟨vr, vc, ⟨h1.box, fun j hj => ⟨(h1.rr j hj).row, fun k hk => ⟨(h1.rr j hj).pk k hk, ((h1.rr j hj).row.lt k hk).2⟩⟩, fun j hj => ⟨(h1.rc j hj).row, fun k hk => ⟨(h1.rc j hj).pk k hk, ((h1.rc j hj).row.lt k hk).2⟩⟩, h1.pr, h1.box.lt⟩, h2⟩

theorem refNew_in (w : World) : Calls Try.prog 12 #[] w fun e W => e = .returned (.pointer (some ⟨w.heap.size, 0, none⟩)) ∧ DF (fun i => w.heap.size ≤ i) W w.heap.size (fun _ => none) ∧ Below w.heap.size w W := by
  have R : Hid (∀ vs : Array Value, vs = arr51 (fun _ => .slice none 0 0) (fun _ => .slice none 0 0) (fun _ => false) → DF (fun i => w.heap.size ≤ i) (w.alloc (.cells vs 59)) w.heap.size (fun _ => none)) := by
    rintro vs rfl
    have e : ∀ W, EW (fun i => w.heap.size ≤ i) W (.slice none 0 0) (fun _ => 0) := fun W => ⟨by rw [vec_zero]; exact World.ownsRow_nil _ _ _ _, fun k hk => (by cases hk)⟩
    exact ⟨_, _, ⟨Bx.new w _ _, fun k _ => e _, fun k _ => e _, Nat.le_refl _⟩, fun k hk => (by cases hk), fun k => ⟨Good.none, Good.none⟩⟩
  go_enter Try.func12, Try.ntmps12
  go_wp2
  go_ret
  exact ⟨rfl, unhide R _ rfl, ballc (Below.refl _ _) _⟩

theorem refsite_in (n : Int) (w : World) : Calls Try.prog 41 #[.int .i64 n] w fun e W => e = .returned (.bool (decide (1 ≤ n ∧ n ≤ 16))) ∧ w = W := by
  by_cases h1 : 1 ≤ n
  · by_cases h2 : n ≤ 16
    · rw [decide_eq_true ⟨h1, h2⟩]
      go_enter Try.func41, Try.ntmps41
      go_wp2
      go_ret
      exact ⟨rfl, rfl⟩
    · rw [show decide (1 ≤ n ∧ n ≤ 16) = false by simp; omega]
      go_enter Try.func41, Try.ntmps41
      have h3 : decide (n ≤ 16) = false := decide_eq_false h2
      go_wp2
      go_ret
      exact ⟨by simp [h3], rfl⟩
  · rw [show decide (1 ≤ n ∧ n ≤ 16) = false by simp; omega]
    go_enter Try.func41, Try.ntmps41
    go_wp2
    go_ret
    exact ⟨rfl, rfl⟩

end Go.Proofs.Ytjiphechhfifgaa

/-
  The document's Front: Usable, Row.
-/
set_option linter.unusedSimpArgs false
set_option linter.unusedVariables false
namespace Go.Proofs.Ytjiphechhfifgaa
open Go.RowKit Go.Lib

theorem riNil (W : World) : RI W (.slice none 0 0) [] := .inl ⟨rfl, _, _, rfl⟩
theorem mrg_none {s : Nat → Int} (h1 : Good s) : mrg s (sy []) = s := funext fun i => by have := h1.lo i; simp only [mrg, sy_nil]; omega
/-- a copy by the document's Merge -/
theorem refCopy_in {P : Nat → Prop} (v : Value) (s : Nat → Int) (g : Good s) (w : World) (h : EW P w v s) : Calls Try.prog 42 #[v, .slice none 0 0] w fun e W => ∃ v', e = .returned v' ∧ OwD W w.heap.size v' (vec s) ∧ Below w.heap.size w W := by
  have := refMerge_in v _ (vec s) [] w (OwD.row h.row) (riNil w) (by have := vec_len s; omega) (by simp)
  rw [sy_vec g, mrg_none g] at this
  exact this
theorem DF.site {P : Nat → Prop} {W : World} {r : Nat} {S : StF} (h : DF P W r S) {k : Int} (hk : ¬ (1 ≤ k ∧ k ≤ 16)) : S k = none := by
  obtain ⟨vr, vc, h1, h2, h3⟩ := h
  cases e : S k with
  | none => rfl
  | some p => exact absurd (h2 k (by rw [e]; rfl)) hk

set_option maxRecDepth 100000 in
set_option maxHeartbeats 2000000 in
theorem refUsable_in {P : Nat → Prop} {w : World} {r : Nat} {S : StF} (h : DF P w r S) (k : Int) :
    Calls Try.prog 29 #[.pointer (some ⟨r, 0, none⟩), .int .i64 k] w fun e W => ∃ v', e = .returned v' ∧ OwD W w.heap.size v' (vec (usR S k)) ∧ Below w.heap.size w W := by
  have HS := hide (refsite_in k w)
  by_cases hk : 1 ≤ k ∧ k ≤ 16
  · rw [decide_eq_true hk] at HS
    obtain ⟨i, rfl⟩ : ∃ i : Nat, k = (i : Nat) := ⟨k.toNat, by omega⟩
    obtain ⟨vr, vc, h1, h2, h3⟩ := h
    have hi : i < 17 := by omega
    have hi' : ((i : Nat) : Int) < 17 := by omega
    have c1 := h1.box.cell (17 + i) _ (arr51_c _ _ _ i hi)
    have HC := hide (refCopy_in _ _ (h3 (i : Int)).2 w (h1.rc i hi))
    obtain ⟨av, cv, e⟩ := OwD.form (h1.rc i hi).row
    rw [e] at c1 HC
    clear h1 h2 h3 e
    generalize (vec (usR S (i : Int))).length = nv at *
    go_enter Try.func29, Try.ntmps29
    go_wp2_with fail
    refine (unhide HS).mono ?_
    rintro e W ⟨rfl, rfl⟩
    clear HS
    go_wp2_with fail
    refine (unhide HC).mono ?_
    rintro e W2 ⟨v', rfl, ho, hb⟩
    replace ho := hide ho
    replace hb := hide hb
    go_wp2
    go_ret
    exact ⟨v', rfl, unhide ho, unhide hb⟩
  · rw [decide_eq_false hk] at HS
    have R : Hid (OwD w w.heap.size (.slice none 0 0) (vec (usR S k))) := by
      have : usR S k = fun _ => 0 := by unfold usR; rw [h.site hk]; rfl
      rw [this, vec_zero]; exact World.ownsRow_nil _ _ _ _
    clear h
    go_enter Try.func29, Try.ntmps29
    go_wp2_with fail
    refine (unhide HS).mono ?_
    rintro e W ⟨rfl, rfl⟩
    go_wp2
    go_ret
    exact ⟨_, rfl, unhide R, Below.refl _ _⟩

set_option maxRecDepth 100000 in
set_option maxHeartbeats 2000000 in
theorem refRow_in {P : Nat → Prop} {w : World} {r : Nat} {S : StF} (h : DF P w r S) (k : Int) :
    Calls Try.prog 28 #[.pointer (some ⟨r, 0, none⟩), .int .i64 k] w fun e W => ∃ v', e = .returned (.tuple #[v', .bool (S k).isSome]) ∧ OwD W w.heap.size v' (vec (hdR S k)) ∧ Below w.heap.size w W := by
  have HS := hide (refsite_in k w)
  by_cases hk : 1 ≤ k ∧ k ≤ 16
  · rw [decide_eq_true hk] at HS
    obtain ⟨i, rfl⟩ : ∃ i : Nat, k = (i : Nat) := ⟨k.toNat, by omega⟩
    obtain ⟨vr, vc, h1, h2, h3⟩ := h
    have hi : i < 17 := by omega
    have hi' : ((i : Nat) : Int) < 17 := by omega
    have c1 := h1.box.cell i _ (arr51_r _ _ _ i hi)
    have c2 := h1.box.cell (34 + i) _ (arr51_h _ _ _ i hi)
    have HC := hide (refCopy_in _ _ (h3 (i : Int)).1 w (h1.rr i hi))
    obtain ⟨av, cv, e⟩ := OwD.form (h1.rr i hi).row
    rw [e] at c1 HC
    have R : Hid ((S (i : Int)).isSome = false → OwD w w.heap.size (.slice none 0 0) (vec (hdR S (i : Int)))) := fun hs => by
      have : hdR S (i : Int) = fun _ => 0 := by unfold hdR; rw [Option.isSome_eq_false_iff, Option.isNone_iff_eq_none] at hs; rw [hs]; rfl
      rw [this, vec_zero]; exact World.ownsRow_nil _ _ _ _
    clear h1 h2 h3 e
    generalize hnv : (vec (hdR S (i : Int))).length = nv at *
    clear hnv
    generalize hdR S (i : Int) = hh at *
    generalize (S (i : Int)).isSome = is at *
    cases is
    · go_enter Try.func28, Try.ntmps28
      go_wp2_with fail
      refine (unhide HS).mono ?_
      rintro e W ⟨rfl, rfl⟩
      go_wp2
      refine bodyPost_ret (results_tmp2 rfl _ _ _) rfl ?_
      exact ⟨_, rfl, unhide R (by first | trivial | rfl), Below.refl _ _⟩
    · go_enter Try.func28, Try.ntmps28
      go_wp2_with fail
      refine (unhide HS).mono ?_
      rintro e W ⟨rfl, rfl⟩
      clear HS R
      go_wp2_with fail
      refine (unhide HC).mono ?_
      rintro e W2 ⟨v', rfl, ho, hb⟩
      replace ho := hide ho
      replace hb := hide hb
      go_wp2
      refine bodyPost_ret (results_tmp2 rfl _ _ _) rfl ?_
      exact ⟨v', rfl, unhide ho, unhide hb⟩
  · rw [decide_eq_false hk] at HS
    have hn := h.site hk
    have R : Hid (OwD w w.heap.size (.slice none 0 0) (vec (hdR S k))) := by
      have : hdR S k = fun _ => 0 := by unfold hdR; rw [hn]; rfl
      rw [this, vec_zero]; exact World.ownsRow_nil _ _ _ _
    rw [hn]
    clear h hn
    go_enter Try.func28, Try.ntmps28
    go_wp2_with fail
    refine (unhide HS).mono ?_
    rintro e W ⟨rfl, rfl⟩
    go_wp2
    refine bodyPost_ret (results_tmp2 rfl _ _ _) rfl ?_
    exact ⟨_, rfl, unhide R, Below.refl _ _⟩

end Go.Proofs.Ytjiphechhfifgaa

/-
  The document's Front: Hear.
-/
set_option linter.unusedSimpArgs false
set_option linter.unusedVariables false
namespace Go.Proofs.Ytjiphechhfifgaa
open Go.RowKit Go.Lib

theorem EW.kpr {P : Nat → Prop} {w W : World} {v : Value} {s : Nat → Int} {r : Nat} {vs : Array Value} (h : EW P w v s) (hx : Bx w r 59 vs) (k : Kp (fun i => i = r) w W) : EW P W v s := h.own hx k
theorem owd_ne_ref {W : World} {B b : Nat} {vs : Array Value} {v : Value} {l : List (Int × Int)} (hx : Bx W b 59 vs) (h : OwD W B v l) : v.ownBlock ≠ some b := fun e => by
  obtain ⟨c, fz, hc⟩ := ownsRow_kind h b e
  unfold Bx at hx
  rw [hx] at hc
  simp at hc
/-- a site's row and count are told anew -/
theorem DF.put {P : Nat → Prop} {w W : World} {r : Nat} {vr vc : Nat → Value} {S : StF} (h1 : DA P w r vr vc S) (h2 : ∀ k, (S k).isSome = true → 1 ≤ k ∧ k ≤ 16) (h3 : ∀ k, Good (hdR S k) ∧ Good (usR S k)) (K : Kp (fun i => i = r) w W) {i : Nat} (hi : 1 ≤ i ∧ i ≤ 16) {v u : Value} {s t : Nat → Int} (hs : Good s) (ht : Good t)
    (hx : Bx W r 59 (arr51 (upd vr i v) (upd vc i u) (upd (fun k => (S (k : Int)).isSome) i true))) (hv : EW (fun j => P j ∨ w.heap.size ≤ j) W v s) (hu : EW (fun j => P j ∨ w.heap.size ≤ j) W u t) :
    DF (fun j => P j ∨ w.heap.size ≤ j) W r (putS S (i : Int) (s, t)) := by
  have e : (fun k : Nat => (putS S (i : Int) (s, t) (k : Int)).isSome) = upd (fun k => (S (k : Int)).isSome) i true := by
    funext k
    unfold putS upd
    by_cases hk : k = i
    · subst hk; simp
    · rw [if_neg (by omega), if_neg hk]
  refine ⟨upd vr i v, upd vc i u, ⟨by rw [e]; exact hx, fun k hk => ?_, fun k hk => ?_, .inl h1.pr⟩, fun k hk => ?_, fun k => ?_⟩
  · rw [hdR_putS]
    unfold upd
    by_cases e : k = i
    · rw [if_pos e, if_pos (by omega)]; exact hv
    · rw [if_neg e, if_neg (by omega)]; exact ((h1.rr k hk).kpr h1.box K).mono (fun _ h => .inl h)
  · rw [usR_putS]
    unfold upd
    by_cases e : k = i
    · rw [if_pos e, if_pos (by omega)]; exact hu
    · rw [if_neg e, if_neg (by omega)]; exact ((h1.rc k hk).kpr h1.box K).mono (fun _ h => .inl h)
  · unfold putS at hk
    by_cases e : k = (i : Int)
    · omega
    · rw [if_neg e] at hk; exact h2 k hk
  · rw [hdR_putS, usR_putS]
    by_cases e : k = (i : Int)
    · rw [if_pos e, if_pos e]; exact ⟨hs, ht⟩
    · rw [if_neg e, if_neg e]; exact h3 k
theorem upd_same {α : Type} (f : Nat → α) (i : Nat) : upd f i (f i) = f := by
  funext k; unfold upd; by_cases e : k = i
  · rw [if_pos e, e]
  · rw [if_neg e]

def RHearA (P : Nat → Prop) (w : World) (r : Nat) (S : StF) (k : Int) (l : List (Int × Int)) (e : Ending) (W : World) : Prop := e = .returned (.int .i64 (hearE k l)) ∧ DF (fun i => P i ∨ w.heap.size ≤ i) W r (hearS S k l) ∧ Kp (fun i => i = r) w W
set_option maxRecDepth 100000 in
set_option maxHeartbeats 4000000 in
theorem refHear_in {P : Nat → Prop} {w : World} {r : Nat} {S : StF} (h : DF P w r S) (k : Int) (v : Value) (l : List (Int × Int)) (hv : RI w v l) (hl : l.length ≤ 1000000) (hap : ∀ i, rb v l.length i → i ≠ r) :
    Calls Try.prog 25 #[.pointer (some ⟨r, 0, none⟩), .int .i64 k, v] w (RHearA P w r S k l) := by
  have HS := hide (refsite_in k w)
  have HC := hide (refCheck_in v l w hv (by omega))
  by_cases hk : 1 ≤ k ∧ k ≤ 16
  rotate_left
  · rw [decide_eq_false hk] at HS
    have R : Hid (RHearA P w r S k l (.returned (.int .i64 1)) w) := ⟨by rw [hearE_no hk], by rw [hearS_no (by rw [hearE_no hk]; decide)]; exact h.mono (fun _ h => .inl h), Kp.refl _ _⟩
    obtain ⟨a, c, rfl⟩ := hv.form
    clear h hv hap HC
    go_enter Try.func25, Try.ntmps25
    go_wp2_with fail
    refine (unhide HS).mono ?_
    rintro e W ⟨rfl, rfl⟩
    go_wp2
    go_ret
    exact unhide R
  rw [decide_eq_true hk] at HS
  obtain ⟨ck, hck⟩ : ∃ ck, chk l = ck := ⟨_, rfl⟩
  rw [hck] at HC
  by_cases h0 : ck = 0
  rotate_left
  · have h0' : (ck == 0) = false := by simpa using h0
    have h0'' : (ck != 0) = true := by simpa using h0
    have R : Hid (∀ W, Below w.heap.size w W → RHearA P w r S k l (.returned (.int .i64 ck)) W) := fun W hb => ⟨by rw [hearE_is hk, hck], by rw [hearS_no (by rw [hearE_is hk, hck]; exact h0)]; exact (h.below hb).mono (fun _ h => .inl h), Kp.of_below hb⟩
    obtain ⟨a, c, rfl⟩ := hv.form
    clear h hv hap hck
    go_enter Try.func25, Try.ntmps25
    go_wp2_with fail
    refine (unhide HS).mono ?_
    rintro e W ⟨rfl, rfl⟩
    clear HS
    go_wp2_with fail
    refine (unhide HC).mono ?_
    rintro e W ⟨rfl, hb⟩
    replace R := hide (unhide R W hb)
    clear hb HC
    go_wp2
    go_ret
    exact unhide R
  subst h0
  obtain ⟨i, rfl⟩ : ∃ i : Nat, k = (i : Nat) := ⟨k.toNat, by omega⟩
  obtain ⟨vr, vc, h1, h2, h3⟩ := h
  have hi : i < 17 := by omega
  have hi' : ((i : Nat) : Int) < 17 := by omega
  have hi1 : 1 ≤ i ∧ i ≤ 16 := by omega
  have R : Hid (∀ W, RHearA P w r S (i : Int) l (.returned (.int .i64 0)) W ↔ DF (fun i => P i ∨ w.heap.size ≤ i) W r (putS S (i : Int) (mrg (hdR S (i : Int)) (sy l), usR S (i : Int))) ∧ Kp (fun i => i = r) w W) := fun W => by
    unfold RHearA
    rw [hearS_is (by rw [hearE_is hk, hck]), hearE_is hk, hck]
    simp
  -- the world after the mark
  have F : Hid (∀ W1, Below w.heap.size w W1 → ∃ W2, W1.setCell ⟨r, 34 + i, none⟩ (.bool true) = W2 ∧ Bx W2 r 59 (arr51 vr vc (upd (fun k => (S (k : Int)).isSome) i true)) ∧ Kp (fun i => i = r) w W2) := fun W1 hb => ⟨_, rfl, by
      have := (h1.box.below hb).set (34 + i) (.bool true)
      rw [arr51_seth _ _ _ _ _ hi] at this
      exact this, (Kp.of_below (N := fun i => i = r) hb).trans (Kp.set (N := fun i => i = r) W1 _ _ rfl) (fun i h => .inl h)⟩
  have M : Hid (∀ W2, Kp (fun i => i = r) w W2 → ∀ W3, Below W2.heap.size W2 W3 → Calls Try.prog 42 #[vr i, v] W3 fun e W => ∃ v', e = .returned v' ∧ Hid (OwD W W3.heap.size v' (vec (mrg (hdR S (i : Int)) (sy l)))) ∧ Hid (Below W2.heap.size W2 W)) := fun W2 k2 W3 b3 => by
    have k3 := k2.trans (Kp.of_below (N := fun _ => False) b3) (fun _ h => h.elim)
    have := refMerge_in (vr i) v (vec (hdR S (i : Int))) l W3 (OwD.row ((h1.rr i hi).kpr h1.box k3).row) (hv.kp' k3 (fun i hi e => hap i hi e)) (by have := vec_len (hdR S (i : Int)); omega) (by omega)
    rw [sy_vec (h3 (i : Int)).1] at this
    refine this.mono ?_
    rintro e W ⟨v', rfl, ho, hb⟩
    exact ⟨v', rfl, ho, bnext b3 hb⟩
  have E : Hid (∀ W2, Kp (fun i => i = r) w W2 → Bx W2 r 59 (arr51 vr vc (upd (fun k => (S (k : Int)).isSome) i true)) → ∀ W, Below W2.heap.size W2 W → ∀ B v', w.heap.size ≤ B → OwD W B v' (vec (mrg (hdR S (i : Int)) (sy l))) → RHearA P w r S (i : Int) l (.returned (.int .i64 0)) (W.setCell ⟨r, i, none⟩ v')) := fun W2 k2 x2 W b2 B v' hB ho => by
    have xw := x2.below b2
    have kw := k2.trans (Kp.of_below (N := fun _ => False) b2) (fun _ h => h.elim)
    have ks := Kp.set (N := fun i => i = r) W ⟨r, i, none⟩ v' rfl
    have kk := kw.trans ks (fun _ h => .inl h)
    refine (unhide R _).2 ⟨DF.put h1 h2 h3 kk hi1 ((h3 _).1.mrg (sy_good l)) (h3 _).2 (u := vc i) ?_ ⟨owd_kp (OwD.b0 ho) ks (fun j hj e => owd_ne_ref xw ho (by rw [hj, e])), fun j hj => .inr (Nat.le_trans hB (ho.lt j hj).1)⟩ (((h1.rc i hi).kpr h1.box kk).mono (fun _ h => .inl h)), kk⟩
    have := xw.set i v'
    rw [arr51_setr _ _ _ _ _ hi] at this
    rw [upd_same]
    exact this
  have C1 : Hid (∀ W2, Bx W2 r 59 (arr51 vr vc (upd (fun k => (S (k : Int)).isSome) i true)) → ∀ W, Below W2.heap.size W2 W → W.cell? ⟨r, i, none⟩ = some (vr i) ∧ W.frozen? ⟨r, i, none⟩ = false ∧ r < W.heap.size) := fun W2 x2 W b => ⟨(x2.below b).cell i _ (arr51_r _ _ _ i hi), (x2.below b).frozen i, (x2.below b).lt⟩
  have C0 : Hid (∀ W, Below w.heap.size w W → W.cell? ⟨r, 34 + i, none⟩ = some (.bool (S (i : Int)).isSome) ∧ W.frozen? ⟨r, 34 + i, none⟩ = false ∧ r < W.heap.size) := fun W b => ⟨(h1.box.below b).cell (34 + i) _ (arr51_h _ _ _ i hi), (h1.box.below b).frozen _, (h1.box.below b).lt⟩
  obtain ⟨ai, ci, ei⟩ := OwD.form (h1.rr i hi).row
  rw [ei] at M C1
  obtain ⟨a, c, rfl⟩ := hv.form
  generalize (vec (hdR S (i : Int))).length = ni at *
  generalize vec (mrg (hdR S (i : Int)) (sy l)) = L at *
  clear h1 h2 h3 hv hap hck R hk ei
  go_enter Try.func25, Try.ntmps25
  go_wp2_with fail
  refine (unhide HS).mono ?_
  rintro e W ⟨rfl, rfl⟩
  clear HS
  go_wp2_with fail
  refine (unhide HC).mono ?_
  rintro e W1 ⟨rfl, hb⟩
  obtain ⟨d0, d1, d2⟩ := unhide C0 W1 hb
  obtain ⟨W2, hW2, x2, k2⟩ := unhide F W1 hb
  have M2 := hide (unhide M W2 k2)
  have E2 := hide (unhide E W2 k2 x2)
  have C2 := hide (unhide C1 W2 x2)
  have z2 := hide k2.size
  clear hb HC C0 F x2 k2 M E C1
  go_wp2
  try rw [hW2]
  clear hW2 d0 d1 d2 W1
  obtain ⟨d0, d1, d2⟩ := unhide C2 W2 (Below.refl _ _)
  go_region_with (go_at_call 42; refine (unhide M2 _ (Below.refl _ _).drew).mono ?_; rintro e W4 ⟨v4, rfl, ho4, hb4⟩; obtain ⟨q0, q1, q2⟩ := unhide C2 W4 (unhide hb4); have R := hide (unhide E2 W4 (unhide hb4) _ v4 (unhide z2) (unhide ho4)); obtain ⟨a4, c4, rfl⟩ := OwD.form (unhide ho4); clear ho4 hb4 M2)
  all_goals
    go_wp2
    go_ret
    exact unhide R

end Go.Proofs.Ytjiphechhfifgaa

/-
  The document's Front: Settle.
-/
set_option linter.unusedSimpArgs false
set_option linter.unusedVariables false
namespace Go.Proofs.Ytjiphechhfifgaa
open Go.RowKit Go.Lib

/-- the sites below n are settled -/
def setN (S : StF) (l : List (Int × Int)) (n : Int) : StF := fun k => if k < n then setS S l k else S k
theorem setS_at {S : StF} {k : Int} (h : S k = none) (l : List (Int × Int)) : setS S l k = none := by unfold setS; rw [h]
theorem setN_start {S : StF} (hs : ∀ k, (S k).isSome = true → 1 ≤ k ∧ k ≤ 16) (l : List (Int × Int)) : setN S l 1 = S := by
  funext k
  unfold setN
  by_cases h : k < 1
  · rw [if_pos h]
    have : S k = none := by
      cases e : S k with
      | none => rfl
      | some p => have := hs k (by rw [e]; rfl); omega
    rw [setS_at this, this]
  · rw [if_neg h]
theorem setN_end {S : StF} (hs : ∀ k, (S k).isSome = true → 1 ≤ k ∧ k ≤ 16) (l : List (Int × Int)) : setN S l 17 = setS S l := by
  funext k
  unfold setN
  by_cases h : k < 17
  · rw [if_pos h]
  · rw [if_neg h]
    have : S k = none := by
      cases e : S k with
      | none => rfl
      | some p => have := hs k (by rw [e]; rfl); omega
    rw [setS_at this, this]
theorem setN_self (S : StF) (l : List (Int × Int)) (i : Int) : setN S l i i = S i := by unfold setN; rw [if_neg (by omega)]
theorem setN_skip {S : StF} {l : List (Int × Int)} {i : Int} (h : (S i).isSome = false ∨ cov (sy l) (hdR (setN S l i) i) = false) : setN S l (i + 1) = setN S l i := by
  funext k
  unfold setN
  by_cases e : k = i
  · subst e
    rw [if_pos (by omega), if_neg (by omega)]
    unfold setS
    cases e : S k with
    | none => rfl
    | some p =>
      obtain ⟨a, b⟩ := p
      rcases h with h | h
      · rw [e] at h; cases h
      · unfold hdR at h
        rw [setN_self, e] at h
        simp only
        rw [if_neg (fun q => by rw [show cov (sy l) a = false from h] at q; cases q.2)]
  · by_cases h1 : k < i
    · rw [if_pos h1, if_pos (by omega)]
    · rw [if_neg h1, if_neg (by omega)]
theorem setN_put {S : StF} {l : List (Int × Int)} {i : Int} (h0 : chk l = 0) (hs : (S i).isSome = true) (h : cov (sy l) (hdR (setN S l i) i) = true) : setN S l (i + 1) = putS (setN S l i) i (hdR (setN S l i) i, hdR (setN S l i) i) := by
  funext k
  unfold putS
  by_cases e : k = i
  · subst e
    rw [if_pos rfl]
    have hh : setN S l (k + 1) k = setS S l k := by unfold setN; rw [if_pos (by omega)]
    rw [hh]
    unfold hdR at h ⊢
    rw [setN_self] at h ⊢
    unfold setS
    cases e : S k with
    | none => rw [e] at hs; cases hs
    | some p =>
      obtain ⟨a, b⟩ := p
      rw [e] at h
      simp only
      rw [if_pos ⟨h0, h⟩]
      rfl
  · rw [if_neg e]
    unfold setN
    by_cases h1 : k < i
    · rw [if_pos h1, if_pos (by omega)]
    · rw [if_neg h1, if_neg (by omega)]
theorem setS_skip {S : StF} {l : List (Int × Int)} (h0 : chk l ≠ 0) : setS S l = S := setS_bad h0

def RSetA (P : Nat → Prop) (w : World) (r : Nat) (T : StF) (e : Ending) (W : World) : Prop := e = .returned (.tuple #[]) ∧ DF (fun i => P i ∨ w.heap.size ≤ i) W r T ∧ Kp (fun i => i = r) w W
def RSetI (P : Nat → Prop) (w : World) (r : Nat) (T : StF) (W : World) : Prop := DF (fun i => P i ∨ w.heap.size ≤ i) W r T ∧ Kp (fun i => i = r) w W
set_option maxRecDepth 100000 in
set_option maxHeartbeats 4000000 in
theorem refSettle_in {P : Nat → Prop} {w : World} {r : Nat} {S : StF} (h : DF P w r S) (v : Value) (l : List (Int × Int)) (hv : RI w v l) (hl : l.length ≤ 1000000) (hap : ∀ i, rb v l.length i → i ≠ r) :
    Calls Try.prog 26 #[.pointer (some ⟨r, 0, none⟩), v] w (RSetA P w r (setS S l)) := by
  have HC := hide (refCheck_in v l w hv (by omega))
  obtain ⟨ck, hck⟩ : ∃ ck, chk l = ck := ⟨_, rfl⟩
  rw [hck] at HC
  by_cases h0 : ck = 0
  rotate_left
  · have h0' : (ck == 0) = false := by simpa using h0
    have h0'' : (ck != 0) = true := by simpa using h0
    have R : Hid (∀ W, Below w.heap.size w W → RSetA P w r (setS S l) (.returned (.tuple #[])) W) := fun W hb => ⟨rfl, by rw [setS_bad (by rw [hck]; exact h0)]; exact (h.below hb).mono (fun _ h => .inl h), Kp.of_below hb⟩
    obtain ⟨a, c, rfl⟩ := hv.form
    clear h hv hap hck
    go_enter Try.func26, Try.ntmps26
    go_wp2_with fail
    refine (unhide HC).mono ?_
    rintro e W ⟨rfl, hb⟩
    replace R := hide (unhide R W hb)
    clear hb HC
    go_wp2
    refine bodyPost_ret (results_none rfl _ _ _) rfl ?_
    exact unhide R
  subst h0
  have Hs : Hid (∀ k, (S k).isSome = true → 1 ≤ k ∧ k ≤ 16) := by obtain ⟨_, _, _, h, _⟩ := h; exact h
  have Hck := hide hck
  have A : Hid (∀ W, Below w.heap.size w W → RSetI P w r (setN S l 1) W) := fun W hb => ⟨by rw [setN_start (unhide Hs)]; exact (h.below hb).mono (fun _ h => .inl h), Kp.of_below hb⟩
  have Z : Hid (∀ W, RSetI P w r (setN S l 17) W → RSetA P w r (setS S l) (.returned (.tuple #[])) W) := fun W q => ⟨rfl, by rw [← setN_end (unhide Hs)]; exact q.1, q.2⟩
  have B : Hid (∀ T W W', RSetI P w r T W → Below W.heap.size W W' → RSetI P w r T W') := fun T W W' q hb => ⟨q.1.below hb, q.2.trans (Kp.of_below (N := fun _ => False) hb) (fun _ h => h.elim)⟩
  have V : Hid (∀ T W, RSetI P w r T W → ∀ s : Nat → Int, Good s → ∀ u, OwD W 0 u (vec s) → Calls Try.prog 22 #[v, u] W fun e W' => e = .returned (.bool (cov (sy l) s)) ∧ Below W.heap.size W W') := fun T W q s g u hu => by
    have := refCovers_in v u l (vec s) W (hv.kp' q.2 (fun i hi e => hap i hi e)) (OwD.row hu) (by omega) (by have := vec_len s; omega)
    rw [sy_vec g] at this
    exact this
  have X : Hid (∀ (T : StF) (i : Nat) W, 1 ≤ i → i ≤ 16 → RSetI P w r T W → ∃ (a1 : Option Addr) (n1 c1 : Nat), W.cell? ⟨r, 34 + i, none⟩ = some (.bool (T (i : Int)).isSome) ∧ W.cell? ⟨r, i, none⟩ = some (.slice a1 n1 c1) ∧ Hid (Good (hdR T (i : Int)) ∧ OwD W 0 (.slice a1 n1 c1) (vec (hdR T (i : Int))) ∧
      ∀ W2, Below W.heap.size W W2 → W2.cell? ⟨r, 34 + i, none⟩ = some (.bool (T (i : Int)).isSome) ∧ W2.cell? ⟨r, i, none⟩ = some (.slice a1 n1 c1) ∧ W2.frozen? ⟨r, 17 + i, none⟩ = false ∧ (∃ x, W2.cell? ⟨r, 17 + i, none⟩ = some x) ∧ r < W2.heap.size ∧ (Calls Try.prog 42 #[.slice a1 n1 c1, .slice none 0 0] W2 fun e W3 => ∃ v', e = .returned v' ∧ OwD W3 W2.heap.size v' (vec (hdR T (i : Int))) ∧ Below W2.heap.size W2 W3) ∧
        ∀ v', (T (i : Int)).isSome = true → OwD W2 W.heap.size v' (vec (hdR T (i : Int))) → RSetI P w r (putS T (i : Int) (hdR T (i : Int), hdR T (i : Int))) (W2.setCell ⟨r, 17 + i, none⟩ v'))) := fun T i W i1 i2 q => by
    obtain ⟨⟨vr, vc, q1, q2, q3⟩, qk⟩ := q
    have hi : i < 17 := by omega
    obtain ⟨a1, c1, e1⟩ := OwD.form (q1.rr i hi).row
    have hr := q1.rr i hi
    have hrow := q1.box.cell i _ (arr51_r _ _ _ i hi)
    rw [e1] at hr hrow
    refine ⟨a1, _, c1, q1.box.cell _ _ (arr51_h _ _ _ i hi), hrow, ⟨(q3 _).1, hr.row, fun W2 b2 => ?_⟩⟩
    have x2 := q1.box.below b2
    have r2 := x2.cell i _ (arr51_r _ _ _ i hi)
    rw [e1] at r2
    have kz := Kp.of_below (N := fun i => i = r) b2
    refine ⟨x2.cell _ _ (arr51_h _ _ _ i hi), r2, x2.frozen _, ⟨_, x2.cell _ _ (arr51_c _ _ _ i hi)⟩, x2.lt, refCopy_in _ _ (q3 _).1 W2 (hr.kpr q1.box kz), fun v' hs ho => ?_⟩
    have ks := Kp.set (N := fun i => i = r) W2 ⟨r, 17 + i, none⟩ v' rfl
    have kk := kz.trans ks (fun _ h => .inl h)
    have hz := qk.size
    refine ⟨(DF.put q1 q2 q3 kk ⟨i1, i2⟩ (q3 _).1 (q3 _).1 (v := vr i) (u := v') ?_ ((((q1.rr i hi).kpr q1.box kk).mono (fun _ h => .inl h))) ⟨owd_kp (OwD.b0 ho) ks (fun j hj e => owd_ne_ref x2 ho (by rw [hj, e])), fun j hj => .inr (ho.lt j hj).1⟩).mono (fun j hj => ?_), qk.trans kk (fun _ h => .inl h)⟩
    · have := x2.set (17 + i) v'
      rw [arr51_setc _ _ _ _ _ hi] at this
      rw [upd_same, show upd (fun k : Nat => (T (k : Int)).isSome) i true = fun k : Nat => (T (k : Int)).isSome by rw [← hs]; exact upd_same _ _]
      exact this
    · rcases hj with h | h
      · exact h
      · exact .inr (by omega)
  obtain ⟨a, c, rfl⟩ := hv.form
  clear h hv hap hck
  go_enter Try.func26, Try.ntmps26
  go_wp2_with fail
  refine (unhide HC).mono ?_
  rintro e W1 ⟨rfl, hb⟩
  have A1 := hide (unhide A W1 hb)
  clear hb HC A
  go_wp2
  go_loopw [4] (fun iv wr => ∃ i : Nat, 1 ≤ i ∧ i ≤ 17 ∧ iv = .int .i64 (i : Nat) ∧ Hid (RSetI P w r (setN S l (i : Int)) wr)) (fun iv _ => 17 - (RowKit.intOf iv).toNat)
  case atStart => exact ⟨1, by omega, by omega, rfl, A1⟩
  case round =>
    obtain ⟨i, i1, i2, rfl, HI⟩ := hrel
    clear A1
    by_cases hlt : i ≤ 16
    · have hlt' : (i : Int) ≤ 16 := by omega
      have hlt'' : (i : Int) < 17 := by omega
      obtain ⟨a1, n1, c1, x0, x1, HX⟩ := unhide X _ i wr i1 hlt (unhide HI)
      rw [setN_self] at x0
      by_cases his : (S (i : Int)).isSome = true
      · have HV := hide (unhide V _ wr (unhide HI) _ (unhide HX).1 _ (unhide HX).2.1)
        rw [his] at x0
        have Hsome := hide his
        cases hcv : cov (sy l) (hdR (setN S l (i : Int)) (i : Int))
        · rw [hcv] at HV
          have HN : Hid (∀ W, Below wr.heap.size wr W → RSetI P w r (setN S l ((i + 1 : Nat) : Int)) W) := fun W hb => by
            rw [show ((i + 1 : Nat) : Int) = (i : Int) + 1 by omega, setN_skip (.inr hcv)]
            exact unhide B _ _ _ (unhide HI) hb
          clear hcv his HX
          go_wp2_with fail
          refine (unhide HV).mono ?_
          rintro e W2 ⟨rfl, hb⟩
          have HN2 := hide (unhide HN W2 hb)
          clear hb HV HN HI
          go_wp2
          go_roundw
          case measure => show 17 - ((i : Int) + 1).toNat < 17 - ((i : Nat) : Int).toNat; omega
          case rel => exact ⟨i + 1, by omega, by omega, by go_num, HN2⟩
        · rw [hcv] at HV
          have HN : Hid (∀ W, RSetI P w r (putS (setN S l (i : Int)) (i : Int) (hdR (setN S l (i : Int)) (i : Int), hdR (setN S l (i : Int)) (i : Int))) W → RSetI P w r (setN S l ((i + 1 : Nat) : Int)) W) := fun W q => by
            rw [show ((i + 1 : Nat) : Int) = (i : Int) + 1 by omega, setN_put (unhide Hck) (unhide Hsome) hcv]
            exact q
          have HX2 : Hid (∀ W2, Below wr.heap.size wr W2 → W2.cell? ⟨r, i, none⟩ = some (.slice a1 n1 c1) ∧ W2.frozen? ⟨r, 17 + i, none⟩ = false ∧ (∃ x, W2.cell? ⟨r, 17 + i, none⟩ = some x) ∧ r < W2.heap.size ∧ (Calls Try.prog 42 #[.slice a1 n1 c1, .slice none 0 0] W2 fun e W3 => ∃ v', e = .returned v' ∧ OwD W3 W2.heap.size v' (vec (hdR (setN S l (i : Int)) (i : Int))) ∧ Below W2.heap.size W2 W3) ∧
              ∀ v', OwD W2 wr.heap.size v' (vec (hdR (setN S l (i : Int)) (i : Int))) → RSetI P w r (setN S l ((i + 1 : Nat) : Int)) (W2.setCell ⟨r, 17 + i, none⟩ v')) := fun W2 b2 => by
            obtain ⟨p0, p1, p2, p3, p4, p5, p6⟩ := (unhide HX).2.2 W2 b2
            exact ⟨p1, p2, p3, p4, p5, fun v' ho => unhide HN _ (p6 v' (by rw [setN_self]; exact unhide Hsome) ho)⟩
          clear hcv his HX HN
          generalize hdR (setN S l (i : Int)) (i : Int) = hh at *
          obtain ⟨T1, hT1⟩ : ∃ T1, setN S l ((i + 1 : Nat) : Int) = T1 := ⟨_, rfl⟩
          rw [hT1] at HX2
          have HT1 := hide hT1
          clear hT1
          go_wp2_with fail
          refine (unhide HV).mono ?_
          rintro e W2 ⟨rfl, hb⟩
          have B2 := hide hb
          obtain ⟨p1, p2, p3, p4, p5, p6⟩ := unhide HX2 W2 hb
          have HM : Hid (∀ W3, Below W2.heap.size W2 W3 → Calls Try.prog 42 #[.slice a1 n1 c1, .slice none 0 0] W3 fun e W4 => ∃ v', e = .returned v' ∧ Hid (OwD W4 W3.heap.size v' (vec hh)) ∧ Hid (Below wr.heap.size wr W4) ∧ W4.cell? ⟨r, i, none⟩ = some (.slice a1 n1 c1) ∧ W4.frozen? ⟨r, 17 + i, none⟩ = false ∧ (∃ x, W4.cell? ⟨r, 17 + i, none⟩ = some x) ∧ r < W4.heap.size ∧ Hid (RSetI P w r T1 (W4.setCell ⟨r, 17 + i, none⟩ v'))) := fun W3 b3 => by
            obtain ⟨_, _, _, _, q5, _⟩ := unhide HX2 W3 (bnext (unhide B2) b3)
            refine q5.mono ?_
            rintro e W4 ⟨v', rfl, ho, b4⟩
            have b14 := bnext (bnext (unhide B2) b3) b4
            obtain ⟨s1, s2, s3, s4, s5, s6⟩ := unhide HX2 W4 b14
            exact ⟨v', rfl, ho, b14, s1, s2, s3, s4, s6 v' (OwD.base ho (Nat.le_trans (unhide B2).size b3.size))⟩
          clear hb HV HI HX2 p5 p6
          obtain ⟨x3, p3⟩ := p3
          go_wp2
          go_region_with (go_at_call 42; refine (unhide HM _ (Below.refl _ _).drew).mono ?_; rintro e W4 ⟨v4, rfl, ho4, hb4, q1, q2, ⟨x4, q3⟩, q4, HR⟩; obtain ⟨a4, c4, rfl⟩ := OwD.form (unhide ho4); clear ho4 hb4 HM)
          all_goals
            go_wp2
            go_roundw
            case measure => show 17 - ((i : Int) + 1).toNat < 17 - ((i : Nat) : Int).toNat; omega
            case rel => exact ⟨i + 1, by omega, by omega, by go_num, by rw [unhide HT1]; exact HR⟩
      · have his' : (S (i : Int)).isSome = false := by simpa using his
        rw [his'] at x0
        have HN : Hid (RSetI P w r (setN S l ((i + 1 : Nat) : Int)) wr) := by
          rw [show ((i + 1 : Nat) : Int) = (i : Int) + 1 by omega, setN_skip (.inl his')]
          exact unhide HI
        clear his his' HX HI
        go_wp2
        go_roundw
        case measure => show 17 - ((i : Int) + 1).toNat < 17 - ((i : Nat) : Int).toNat; omega
        case rel => exact ⟨i + 1, by omega, by omega, by go_num, HN⟩
    · have hlt' : ¬ (i : Int) ≤ 16 := by omega
      obtain rfl : i = 17 := by omega
      have R := hide (unhide Z _ (unhide HI))
      go_wp2
      refine bodyPost_ret (results_none rfl _ _ _) rfl ?_
      exact unhide R

end Go.Proofs.Ytjiphechhfifgaa

/-
  The document's Front: Frontier.
-/
set_option linter.unusedSimpArgs false
set_option linter.unusedVariables false
namespace Go.Proofs.Ytjiphechhfifgaa
open Go.RowKit Go.Lib

def othF (self : Int) : Int → Bool := fun x => !(x == self)
theorem frR_snocF {S : StF} {ms : List Int} {k : Int} {s : Nat → Int} : frR S (ms ++ [k]) s = lst (frR S ms s) (usR S k) := by simp [frR]
theorem fr_take {S : StF} {ms : List Int} {self : Int} {s : Nat → Int} {i : Nat} (h : i < ms.length) : frR S ((ms.take (i + 1)).filter (othF self)) s = if ms[i] = self then frR S ((ms.take i).filter (othF self)) s else lst (frR S ((ms.take i).filter (othF self)) s) (usR S ms[i]) := by
  rw [List.take_add_one, List.getElem?_eq_getElem h, List.filter_append]
  by_cases e : ms[i] = self
  · rw [if_pos e, show List.filter (othF self) (some ms[i]).toList = [] by simp [othF, e], List.append_nil]
  · rw [if_neg e, show List.filter (othF self) (some ms[i]).toList = [ms[i]] by simp [othF, e], frR_snocF]

set_option maxRecDepth 100000 in
set_option maxHeartbeats 4000000 in
theorem refFrontier_in {P : Nat → Prop} {w : World} {r : Nat} {S : StF} (h : DF P w r S) (mv : Value) (ms : List Int) (hm : RN w mv ms) (hms : ms.length ≤ 1000000) (self : Int) (v : Value) (l : List (Int × Int)) (hv : RI w v l) (hl : l.length ≤ 1000000) :
    Calls Try.prog 27 #[.pointer (some ⟨r, 0, none⟩), mv, .int .i64 self, v] w (FnA w (Fro S ms self l)) := by
  obtain ⟨a, c, rfl⟩ := hv.form
  obtain ⟨am, cm, rfl⟩ := hm.form
  have HC := hide (refCheck_in _ l w hv (by omega))
  obtain ⟨ck, hck⟩ : ∃ ck, chk l = ck := ⟨_, rfl⟩
  rw [hck] at HC
  obtain ⟨L, hL⟩ : ∃ L, Fro S ms self l = L := ⟨_, rfl⟩
  rw [hL]
  by_cases h0 : ck = 0
  rotate_left
  · have h0' : (ck == 0) = false := by simpa using h0
    have h0'' : (ck != 0) = true := by simpa using h0
    have R : Hid (∀ W1, Below w.heap.size w W1 → FnA w L (.returned (.slice none 0 0)) W1) := fun W1 hb => by
      refine ⟨_, rfl, ?_, hb⟩
      rw [← hL]
      unfold Fro
      rw [if_neg (by rw [hck]; exact h0)]
      exact World.ownsRow_nil _ _ _ _
    clear h hm hv hck hL
    go_enter Try.func27, Try.ntmps27
    go_wp2_with fail
    refine (unhide HC).mono ?_
    rintro e W1 ⟨rfl, hb⟩
    replace R := hide (unhide R W1 hb)
    clear hb HC
    go_wp2
    go_ret
    exact unhide R
  subst h0
  have hG : ∀ k, Good (usR S k) := by obtain ⟨_, _, _, _, q⟩ := h; exact fun k => (q k).2
  have HG : Hid (∀ i, Good (frR S ((ms.take i).filter (othF self)) (sy l))) := fun i => frR_good hG _ (sy_good l)
  have hLL : vec (frR S (ms.filter (othF self)) (sy l)) = L := by rw [← hL]; unfold Fro; rw [if_pos hck]; rfl
  have HL := hide hLL
  have CP : Hid (∀ W, Below w.heap.size w W → Calls Try.prog 42 #[.slice a l.length c, .slice none 0 0] W fun e W' => ∃ (a' : Option Addr) (n' c' : Nat), e = .returned (.slice a' n' c') ∧ Hid (OwD W' w.heap.size (.slice a' n' c') (vec (sy l))) ∧ Hid (Below w.heap.size w W')) := fun W hb => by
    have := refMerge_in (.slice a l.length c) _ l [] W (hv.below hb) (riNil W) (by omega) (by simp)
    rw [mrg_none (sy_good l)] at this
    refine this.mono ?_
    rintro e W' ⟨v', rfl, ho, hb'⟩
    obtain ⟨a', c', rfl⟩ := OwD.form ho
    exact ⟨a', _, c', rfl, OwD.base ho hb.size, bnext hb hb'⟩
  have US : Hid (∀ W, Below w.heap.size w W → ∀ k, Calls Try.prog 29 #[.pointer (some ⟨r, 0, none⟩), .int .i64 k] W fun e W' => ∃ (a' : Option Addr) (n' c' : Nat), e = .returned (.slice a' n' c') ∧ Hid (OwD W' 0 (.slice a' n' c') (vec (usR S k))) ∧ Hid (Below W.heap.size W W')) := fun W hb k => by
    refine (refUsable_in (h.below hb) k).mono ?_
    rintro e W' ⟨v', rfl, ho, hb'⟩
    obtain ⟨a', c', rfl⟩ := OwD.form ho
    exact ⟨a', _, c', rfl, OwD.b0 ho, hb'⟩
  have LE : Hid (∀ W, Below w.heap.size w W → ∀ (s t : Nat → Int), Good s → Good t → ∀ (a1 : Option Addr) (n1 c1 : Nat) (a2 : Option Addr) (n2 c2 : Nat), OwD W w.heap.size (.slice a1 n1 c1) (vec s) → OwD W 0 (.slice a2 n2 c2) (vec t) → Calls Try.prog 43 #[.slice a1 n1 c1, .slice a2 n2 c2] W fun e W' => ∃ (a' : Option Addr) (n' c' : Nat), e = .returned (.slice a' n' c') ∧ Hid (OwD W' w.heap.size (.slice a' n' c') (vec (lst s t))) ∧ Hid (Below w.heap.size w W')) := fun W hb s t gs gt a1 n1 c1 a2 n2 c2 h1 h2 => by
    have := refLeast_in _ _ (vec s) (vec t) W (OwD.row h1) (OwD.row h2) (by have := vec_len s; omega) (by have := vec_len t; omega)
    rw [sy_vec gs, sy_vec gt] at this
    refine this.mono ?_
    rintro e W' ⟨v', rfl, ho, hb'⟩
    obtain ⟨a', c', rfl⟩ := OwD.form ho
    exact ⟨a', _, c', rfl, OwD.base ho hb.size, bnext hb hb'⟩
  have HGu := hide hG
  have Hm := hide hm
  obtain ⟨len, hlen⟩ : ∃ len, ms.length = len := ⟨_, rfl⟩
  have Hlen := hide hlen
  rw [hlen] at hms Hm ⊢
  clear h hm hv hck hL hLL hG hlen
  go_enter Try.func27, Try.ntmps27
  go_wp2_with fail
  refine (unhide HC).mono ?_
  rintro e W1 ⟨rfl, hb⟩
  replace CP := hide (unhide CP W1 hb)
  clear hb HC
  go_wp2_with fail
  refine (unhide CP).mono ?_
  rintro e W2 ⟨a2, n2, c2, rfl, HO2, HB2⟩
  clear CP
  go_wp2
  go_loopw [9, 10] (fun vv iv wr => ∃ (i : Nat) (a' : Option Addr) (n' c' : Nat), iv = .int .i64 (i : Nat) ∧ i ≤ len ∧ vv = .slice a' n' c' ∧ Hid (OwD wr w.heap.size (.slice a' n' c') (vec (frR S ((ms.take i).filter (othF self)) (sy l)))) ∧ Hid (Below w.heap.size w wr)) (fun _ iv _ => len - (Lib.intOf iv).toNat)
  case atStart => exact ⟨0, _, _, _, rfl, by omega, rfl, HO2, HB2⟩
  case round =>
    obtain ⟨i, a', n', c', rfl, hi, rfl, HO, HB⟩ := hrel
    clear HO2 HB2
    by_cases hlt : i < len
    · have hlt' : (i : Int) < (len : Int) := by omega
      have hkz : i < ms.length := by rw [unhide Hlen]; exact hlt
      obtain ⟨b, off, rfl, hb0, hc⟩ := RN.at ((unhide Hm).below (unhide HB)) (List.getElem?_eq_getElem hkz)
      have HT : Hid (frR S ((ms.take (i + 1)).filter (othF self)) (sy l) = if ms[i] = self then frR S ((ms.take i).filter (othF self)) (sy l) else lst (frR S ((ms.take i).filter (othF self)) (sy l)) (usR S ms[i])) := fr_take hkz
      have HCell : Hid (∀ W, Below wr.heap.size wr W → W.cell? ⟨b, off + i, none⟩ = some (.int .i64 ms[i])) := fun W hW => by
        obtain ⟨b', off', e, _, q⟩ := RN.at ((unhide Hm).below (bnext (unhide HB) hW)) (List.getElem?_eq_getElem hkz)
        cases e
        exact q
      by_cases he : ms[i] = self
      · have HO2 : Hid (OwD wr w.heap.size (.slice a' n' c') (vec (frR S ((ms.take (i + 1)).filter (othF self)) (sy l)))) := by
          rw [unhide HT, if_pos he]; exact unhide HO
        rw [he] at hc
        clear he HT HO HCell
        go_wp2
        go_roundw
        case measure => show len - ((i : Int) + 1).toNat < len - ((i : Nat) : Int).toNat; omega
        case rel => exact ⟨i + 1, _, _, _, by go_num, by omega, rfl, HO2, HB⟩
      · have he' : (ms[i] == self) = false := by simpa using he
        have he'' : (ms[i] != self) = true := by simpa using he
        have HU := hide (unhide US wr (unhide HB) ms[i])
        have HLe := hide (fun W (b1 : Below wr.heap.size wr W) a2 n2 c2 (o2 : OwD W 0 (.slice a2 n2 c2) (vec (usR S ms[i]))) => unhide LE W (bnext (unhide HB) b1) _ _ (unhide HG i) (unhide HGu ms[i]) a' n' c' a2 n2 c2 (owd_below (unhide HO) b1) o2)
        rw [← (show frR S ((ms.take (i + 1)).filter (othF self)) (sy l) = _ from (unhide HT).trans (if_neg he))] at HLe
        generalize ms[i] = x at *
        clear HT HO HCell he
        go_wp2_with fail
        refine (unhide HU).mono ?_
        rintro e W3 ⟨a3, n3, c3, rfl, ho3, hb3⟩
        replace HLe := hide (unhide HLe W3 (unhide hb3) _ _ _ (unhide ho3))
        clear ho3 hb3 HU
        go_wp2_with fail
        refine (unhide HLe).mono ?_
        rintro e W4 ⟨a4, n4, c4, rfl, ho4, hb4⟩
        clear HLe
        go_wp2
        go_roundw
        case measure => show len - ((i : Int) + 1).toNat < len - ((i : Nat) : Int).toNat; omega
        case rel => exact ⟨i + 1, _, _, _, by go_num, by omega, rfl, ho4, hb4⟩
    · obtain rfl : i = len := by omega
      have hlt' : ¬ (i : Int) < (i : Int) := by omega
      have R : Hid (FnA w L (.returned (.slice a' n' c')) wr) := by
        have := unhide HO
        rw [List.take_of_length_le (by rw [unhide Hlen]; exact Nat.le_refl _), unhide HL] at this
        exact ⟨_, rfl, this, unhide HB⟩
      clear HO
      go_wp2
      go_ret
      exact unhide R

end Go.Proofs.Ytjiphechhfifgaa
