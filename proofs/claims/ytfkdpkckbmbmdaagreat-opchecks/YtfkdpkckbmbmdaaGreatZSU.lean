/-
  A twin's lists with one thing turned.
-/
import Derived.Test.YtfkdpkckbmbmdaaGreatZST
set_option linter.unusedSimpArgs false
set_option linter.unusedVariables false
namespace Go.Proofs.YtfkdpkckbmbmdaaGreat
open Go.RowKit Go.Lib

theorem flat_setI2 : ∀ (M : List (Int × Int)) (k : Nat) (y : Int × Int), ((flat encI M).set (k * 2) (.int .i64 y.1)).set (k * 2 + 1) (.int .i64 y.2) = flat encI (M.set k y)
  | [], k, y => by simp [flat]
  | x :: M, 0, y => by simp [flat, encI]
  | x :: M, k + 1, y => by
    have ih := flat_setI2 M k y
    rw [List.set_cons_succ, flat_cons, flat_cons, ← ih, show (k + 1) * 2 = k * 2 + 1 + 1 by omega]
    rfl
theorem flat_setR3 : ∀ (M : List ((Int × Int) × Int)) (k : Nat) (y : (Int × Int) × Int), (((flat encR M).set (k * 3) (.int .i64 y.1.1)).set (k * 3 + 1) (.int .i64 y.1.2)).set (k * 3 + 2) (.int .i64 y.2) = flat encR (M.set k y)
  | [], k, y => by simp [flat]
  | x :: M, 0, y => by simp [flat, encR]
  | x :: M, k + 1, y => by
    have ih := flat_setR3 M k y
    rw [List.set_cons_succ, flat_cons, flat_cons, ← ih, show (k + 1) * 3 = k * 3 + 1 + 1 + 1 by omega]
    rfl
theorem Tw.ne {W : World} {B : Nat} {deps : List (Int × Int)} {gone : List ((Int × Int) × Int)} {gd cd gg cg : Nat} (h : Tw W B deps gone gd cd gg cg) : gd ≠ gg := fun e => by
  obtain ⟨_, (⟨e1, _⟩ | ⟨g, cap, cur, e1, _, hg, _⟩)⟩ := h.d
  · cases e1
  obtain ⟨_, (⟨e2, _⟩ | ⟨g2, cap2, cur2, e2, _, hg2, _⟩)⟩ := h.g
  · cases e2
  simp at e1 e2
  obtain ⟨rfl, _⟩ := e1
  obtain ⟨rfl, _⟩ := e2
  rw [e] at hg
  rw [hg] at hg2
  simp at hg2
theorem Tw.cells {W : World} {B : Nat} {deps : List (Int × Int)} {gone : List ((Int × Int) × Int)} {gd cd gg cg : Nat} (h : Tw W B deps gone gd cd gg cg) :
    (B ≤ gd ∧ gd < W.heap.size ∧ B ≤ gg ∧ gg < W.heap.size) ∧ (∀ j, j < deps.length * 2 → ∃ x, W.cell? ⟨gd, j, none⟩ = some x) ∧ (∀ j, W.frozen? ⟨gd, j, none⟩ = false) ∧ (∀ j, j < gone.length * 3 → ∃ x, W.cell? ⟨gg, j, none⟩ = some x) ∧ ∀ j, W.frozen? ⟨gg, j, none⟩ = false := by
  obtain ⟨_, (⟨e1, _⟩ | ⟨g, cap, cur, e1, hb, hg, hc1, hc2, hc3, hc4⟩)⟩ := h.d
  · cases e1
  obtain ⟨_, (⟨e2, _⟩ | ⟨g2, cap2, cur2, e2, hb2, hg2, hk1, hk2, hk3, hk4⟩)⟩ := h.g
  · cases e2
  simp at e1 e2
  obtain ⟨rfl, rfl⟩ := e1
  obtain ⟨rfl, rfl⟩ := e2
  have hx : Bx W gd 23 cur := hg
  have hy : Bx W gg 32 cur2 := hg2
  refine ⟨⟨hb, hx.lt, hb2, hy.lt⟩, fun j hj => ⟨cur[j]'(by omega), hx.cell _ _ (Array.getElem?_eq_getElem (by omega))⟩, fun j => hx.frozen j, fun j hj => ⟨cur2[j]'(by omega), hy.cell _ _ (Array.getElem?_eq_getElem (by omega))⟩, fun j => hy.frozen j⟩
theorem Tw.setd {W : World} {B : Nat} {deps : List (Int × Int)} {gone : List ((Int × Int) × Int)} {gd cd gg cg : Nat} (h : Tw W B deps gone gd cd gg cg) {k : Nat} (hk : k < deps.length) (d1 d2 : Int) :
    Tw ((W.setCell ⟨gd, k * 2, none⟩ (.int .i64 d1)).setCell ⟨gd, k * 2 + 1, none⟩ (.int .i64 d2)) B (deps.set k (d1, d2)) gone gd cd gg cg := by
  have hne := h.ne
  have hkp : Kp (fun j => j = gd) W ((W.setCell ⟨gd, k * 2, none⟩ (.int .i64 d1)).setCell ⟨gd, k * 2 + 1, none⟩ (.int .i64 d2)) := (Kp.set (N := fun j => j = gd) W ⟨gd, k * 2, none⟩ _ rfl).trans (Kp.set (N := fun j => j = gd) _ ⟨gd, k * 2 + 1, none⟩ _ rfl) (fun j e => .inl e)
  refine ⟨?_, owns_kp h.g hkp (fun i hi e => by simp [Value.ownBlock] at hi; omega)⟩
  obtain ⟨h1, (⟨e1, _⟩ | ⟨g, cap, cur, e1, hb, hg, hc1, hc2, hc3, hc4⟩)⟩ := h.d
  · cases e1
  simp at e1
  obtain ⟨rfl, rfl⟩ := e1
  have hx : Bx W gd 23 cur := hg
  have h3 := (hx.set (k * 2) (.int .i64 d1)).set (k * 2 + 1) (.int .i64 d2)
  rw [List.length_set]
  have hset : (deps ++ [((77 : Int), (77 : Int))]).set k (d1, d2) = deps.set k (d1, d2) ++ [(77, 77)] := List.set_append_left _ _ hk
  refine ⟨?_, .inr ⟨gd, cd, _, rfl, hb, h3, hc1, hc2, by simpa using hc3, ?_⟩⟩
  · rw [flat_len encI_len, List.length_append, List.length_set]; rfl
  · rw [← hset, ← flat_setI2]
    simp only [Array.toList_setIfInBounds]
    rw [← hc4, List.take_set, List.take_set]
theorem Tw.setg {W : World} {B : Nat} {deps : List (Int × Int)} {gone : List ((Int × Int) × Int)} {gd cd gg cg : Nat} (h : Tw W B deps gone gd cd gg cg) {k : Nat} (hk : k < gone.length) (t s c : Int) :
    Tw (((W.setCell ⟨gg, k * 3, none⟩ (.int .i64 t)).setCell ⟨gg, k * 3 + 1, none⟩ (.int .i64 s)).setCell ⟨gg, k * 3 + 2, none⟩ (.int .i64 c)) B deps (gone.set k ((t, s), c)) gd cd gg cg := by
  have hne := h.ne
  have hkp : Kp (fun j => j = gg) W (((W.setCell ⟨gg, k * 3, none⟩ (.int .i64 t)).setCell ⟨gg, k * 3 + 1, none⟩ (.int .i64 s)).setCell ⟨gg, k * 3 + 2, none⟩ (.int .i64 c)) := ((Kp.set (N := fun j => j = gg) W ⟨gg, k * 3, none⟩ _ rfl).trans (Kp.set (N := fun j => j = gg) _ ⟨gg, k * 3 + 1, none⟩ _ rfl) (fun j e => .inl e)).trans (Kp.set (N := fun j => j = gg) _ ⟨gg, k * 3 + 2, none⟩ _ rfl) (fun j e => .inl e)
  refine ⟨owns_kp h.d hkp (fun i hi e => by simp [Value.ownBlock] at hi; omega), ?_⟩
  obtain ⟨h1, (⟨e1, _⟩ | ⟨g, cap, cur, e1, hb, hg, hc1, hc2, hc3, hc4⟩)⟩ := h.g
  · cases e1
  simp at e1
  obtain ⟨rfl, rfl⟩ := e1
  have hx : Bx W gg 32 cur := hg
  have h3 := ((hx.set (k * 3) (.int .i64 t)).set (k * 3 + 1) (.int .i64 s)).set (k * 3 + 2) (.int .i64 c)
  rw [List.length_set]
  have hset : (gone ++ [(((0 : Int), (0 : Int)), (77 : Int))]).set k ((t, s), c) = gone.set k ((t, s), c) ++ [((0, 0), 77)] := List.set_append_left _ _ hk
  refine ⟨?_, .inr ⟨gg, cg, _, rfl, hb, h3, hc1, hc2, by simpa using hc3, ?_⟩⟩
  · rw [flat_len encR_len, List.length_append, List.length_set]; rfl
  · rw [← hset, ← flat_setR3]
    simp only [Array.toList_setIfInBounds]
    rw [← hc4, List.take_set, List.take_set, List.take_set]
theorem InO.setd {o : Opn} (h : InO o) (k : Nat) (x : Int × Int) : InO { o with deps := o.deps.set k x } :=
  ⟨h.ds, h.dq, h.kind, h.it, h.is, h.rt, h.rs, h.site, by show (o.deps.set k x).length ≤ _; rw [List.length_set]; exact h.deps, h.text, h.gone, h.many⟩
theorem InO.setg {o : Opn} (h : InO o) (k : Nat) {x : (Int × Int) × Int} (hx : runIn x) : InO { o with gone := o.gone.set k x } :=
  ⟨h.ds, h.dq, h.kind, h.it, h.is, h.rt, h.rs, h.site, h.deps, h.text, fun r hr => by
    rcases List.mem_or_eq_of_mem_set hr with hr | rfl
    · exact h.gone r hr
    · exact hx, by show (o.gone.set k x).length ≤ _; rw [List.length_set]; exact h.many⟩

end Go.Proofs.YtfkdpkckbmbmdaaGreat
