/-
  Lists with a mark behind them; rows of windows that are written over.
-/
import Derived.Test.YtmglnaldpcmakaaZEA
set_option linter.unusedSimpArgs false
set_option linter.unusedVariables false
namespace Go.Proofs.Ytmglnaldpcmakaa
open Go.RowKit Go.Lib Go.Shelf

def mkE : Ev := ⟨171, 0, 0, 0, 0, 0, false⟩
theorem RC.take1 {W : World} {a : Option Addr} {n c : Nat} {C D : List Value} (h : RC W (.slice a (n + 1) c) (n + 1) C) (hD : ∀ (j : Nat) (x : Value), D[j]? = some x → C[j]? = some x) : RC W (.slice a n c) n D := by
  rcases h with ⟨h0, _⟩ | ⟨b, off, cap, e, h1, h2, h3⟩
  · omega
  · simp at e
    obtain ⟨rfl, rfl⟩ := e
    exact .inr ⟨b, off, c, rfl, by omega, h2, fun j x hx => h3 j x (hD j x hx)⟩
theorem own_cap {W : World} {B E k n : Nat} {a : Option Addr} {c : Nat} {C : List Value} (h : W.ownsRow B E k (.slice a (n + 1) c) (n + 1) C) : ∃ g, a = some ⟨g, 0, none⟩ ∧ n + 1 ≤ c := by
  obtain ⟨_, (⟨_, h0⟩ | ⟨g, cap, cur, e, _, _, h1, _⟩)⟩ := h
  · omega
  · simp at e
    obtain ⟨rfl, rfl⟩ := e
    exact ⟨g, rfl, h1⟩


theorem sl_toE (w : World) (a : Option Addr) (n c k : Nat) (hk : k ≤ c) :
    (Instr.sliceAt 22 (.slice a n c) none (some (.int .i64 (k : Nat))) none).run Try.prog w = .ok (.slice a k c) w := by
  obtain ⟨i0, hi, hz0, hz1, hz2⟩ := info_parts infoE
  have h1 : (k : Int) ≤ (c : Int) := by omega
  simp [Instr.sliceAt, Instr.slice, run_underlying Try.underlying22, sizeOf, typeInfo, hi, hz1, go_sem, h1, hk]
theorem sl_toN (w : World) (a : Option Addr) (n c k : Nat) (hk : k ≤ c) :
    (Instr.sliceAt 23 (.slice a n c) none (some (.int .i64 (k : Nat))) none).run Try.prog w = .ok (.slice a k c) w := by
  obtain ⟨i0, hi, hz0, hz1, hz2⟩ := info_parts infoN
  have h1 : (k : Int) ≤ (c : Int) := by omega
  simp [Instr.sliceAt, Instr.slice, run_underlying Try.underlying23, sizeOf, typeInfo, hi, hz1, go_sem, h1, hk]
/-- each block is of the type and of the size that it was -/
def SS (W W' : World) : Prop := ∀ i t cur, Bx W i t cur → ∃ cur', Bx W' i t cur' ∧ cur'.size = cur.size
theorem SS.refl (W : World) : SS W W := fun i t cur h => ⟨cur, h, rfl⟩
theorem SS.trans {a b c : World} (h : SS a b) (k : SS b c) : SS a c := fun i t cur hx => by
  obtain ⟨c1, h1, e1⟩ := h i t cur hx
  obtain ⟨c2, h2, e2⟩ := k i t c1 h1
  exact ⟨c2, h2, e2.trans e1⟩
theorem SS.below {W W' : World} (hb : Below W.heap.size W W') : SS W W' := fun i t cur hx => ⟨cur, hx.below hb, rfl⟩
theorem SS.set (W : World) (b j : Nat) (v : Value) : SS W (W.setCell ⟨b, j, none⟩ v) := fun i t cur hx => by
  by_cases e : i = b
  · subst e; exact ⟨_, hx.set j v, by simp⟩
  · exact ⟨cur, hx.kp (Kp.set (N := fun k => k = b) W ⟨b, j, none⟩ v rfl) e, rfl⟩
theorem SS.grown {W W' : World} (h : W.grownBy W' none) : SS W W' := fun i t cur hx => ⟨cur, (h.block i hx.lt (by simp)).trans hx, rfl⟩

/-- a row of one's own -/
def OwX (W : World) (t : TypeId) (k : Nat) (v : Value) (n : Nat) : Prop := ∃ C, W.ownsRow 0 t k v n C
theorem OwX.ss {W W' : World} {t : TypeId} {k n : Nat} {v : Value} (h : OwX W t k v n) (s : SS W W') : OwX W' t k v n := by
  obtain ⟨C, h1, h2 | ⟨g, cap, cur, rfl, hb, hg, hc1, hc2, hc3, hc4⟩⟩ := h
  · exact ⟨C, h1, .inl h2⟩
  · obtain ⟨cur', hx, hs⟩ := s g t cur hg
    refine ⟨cur'.toList.take (n * k), ?_, .inr ⟨g, cap, cur', rfl, hb, hx, hc1, hc2, hs.trans hc3, rfl⟩⟩
    rw [List.length_take, Array.length_toList, hs, hc3]
    exact Nat.min_eq_left (Nat.mul_le_mul_right _ hc1)
theorem OwX.form {W : World} {t : TypeId} {k n : Nat} {v : Value} (h : OwX W t k v n) : ∃ a c, v = .slice a n c := by
  obtain ⟨C, h⟩ := h
  rcases h.2 with ⟨rfl, rfl⟩ | ⟨g, cap, cur, rfl, _⟩
  · exact ⟨_, _, rfl⟩
  · exact ⟨_, _, rfl⟩
theorem OwX.at {W : World} {t : TypeId} {k n c : Nat} {a : Option Addr} (h : OwX W t k (.slice a n c) n) (hn : 0 < n) : ∃ g, a = some ⟨g, 0, none⟩ ∧ g < W.heap.size ∧ (∀ x, W.frozen? ⟨g, x, none⟩ = false) ∧ (∀ q, q < n * k → ∃ u, W.cell? ⟨g, q, none⟩ = some u) ∧ ∃ cur, Bx W g t cur := by
  obtain ⟨C, h⟩ := h
  have h0 := h
  obtain ⟨h1, (⟨e, h2⟩ | ⟨g, cap, cur, e, hb, hg, hc1, hc2, hc3, hc4⟩)⟩ := h
  · omega
  simp at e
  obtain ⟨rfl, rfl⟩ := e
  have hbx : Bx W g t cur := hg
  refine ⟨g, rfl, hbx.lt, fun x => hbx.frozen x, fun q hq => ?_, cur, hbx⟩
  have := h0.cellAt q hq
  exact ⟨_, this.trans (List.getElem?_eq_getElem (by omega))⟩
theorem OwX.of {W : World} {B : Nat} {t : TypeId} {k n : Nat} {v : Value} {C : List Value} (h : W.ownsRow B t k v n C) : OwX W t k v n := ⟨C, owns_wk h (Nat.zero_le _)⟩


/-- append(append([]T{}, l...), mark) -/
theorem mk_evs (W : World) (ty ty' : TypeId) (ul : Value) (l : List Ev) (hl : RV W ul l) (hn : l.length ≤ 10000) :
    ∃ v1 X1 v2 X2, (Builtin.append_ #[22, 22] ty #[.slice (some ⟨W.heap.size, 0, none⟩) 0 0, ul]).run Try.prog (W.alloc (.cells #[] 27)) = .ok v1 X1 ∧
      (Builtin.append_ #[22, 22] ty' #[v1, .slice (some ⟨X1.heap.size, 0, none⟩) 1 1]).run Try.prog (X1.alloc (.cells #[.int .i64 171, .int .i64 0, .int .i64 0, .int .i64 0, .int .i64 0, .int .i64 0, .bool false] 27)) = .ok v2 X2 ∧ OwV X2 W.heap.size v2 (l ++ [mkE]) ∧ Below W.heap.size W X2 := by
  have h0 : OwV (W.alloc (.cells #[] 27)) W.heap.size (.slice (some ⟨W.heap.size, 0, none⟩) 0 0) [] := own_zero W 27 7 W.heap.size (Nat.le_refl _)
  have al := ballc (Below.refl W.heap.size W) (.cells #[] 27)
  obtain ⟨v1, X1, r1, o1, g1, -⟩ := app_evs _ W.heap.size ty _ [] h0 ul l (hl.below al) al.size (by simp; omega)
  have b1 : Below W.heap.size W X1 := (Kp.of_grown (N := fun k => (Value.slice (some ⟨W.heap.size, 0, none⟩) 0 0).ownBlock = some k) g1 (fun k e => e)).below al (fun i e => owns_ge h0 i e)
  obtain ⟨v2, X2, r2, o2, -, hb2⟩ := append_ev X1 ty' W.heap.size v1 _ mkE o1 b1.size (by simp; omega)
  exact ⟨v1, X1, v2, X2, r1, r2, by simpa using o2, hb2 W rfl b1⟩
theorem mk_ints (W : World) (ty ty' : TypeId) (ul : Value) (l : List Int) (hl : RN W ul l) (hn : l.length ≤ 10000) :
    ∃ v1 X1 v2 X2, (Builtin.append_ #[23, 23] ty #[.slice (some ⟨W.heap.size, 0, none⟩) 0 0, ul]).run Try.prog (W.alloc (.cells #[] 3)) = .ok v1 X1 ∧
      (Builtin.append_ #[23, 23] ty' #[v1, .slice (some ⟨X1.heap.size, 0, none⟩) 1 1]).run Try.prog (X1.alloc (.cells #[.int .i64 171] 3)) = .ok v2 X2 ∧ OwN X2 W.heap.size v2 (l ++ [171]) ∧ Below W.heap.size W X2 := by
  have h0 : OwN (W.alloc (.cells #[] 3)) W.heap.size (.slice (some ⟨W.heap.size, 0, none⟩) 0 0) [] := own_zero W 3 1 W.heap.size (Nat.le_refl _)
  have al := ballc (Below.refl W.heap.size W) (.cells #[] 3)
  obtain ⟨v1, X1, r1, o1, g1, -⟩ := app_ints _ W.heap.size ty _ [] h0 ul l (hl.below al) al.size (by simp; omega)
  have b1 : Below W.heap.size W X1 := (Kp.of_grown (N := fun k => (Value.slice (some ⟨W.heap.size, 0, none⟩) 0 0).ownBlock = some k) g1 (fun k e => e)).below al (fun i e => owns_ge h0 i e)
  obtain ⟨v2, X2, r2, o2, g2, -⟩ := append_int X1 ty' W.heap.size v1 _ 171 o1 b1.size (by simp; omega)
  have b2 : Below W.heap.size W X2 := (Kp.of_grown (N := fun k => v1.ownBlock = some k) g2 (fun k e => e)).below (ballc b1 _) (fun i e => owns_ge o1 i e)
  exact ⟨v1, X1, v2, X2, r1, r2, by simpa using o2, b2⟩
/-- without the mark -/
theorem mk_cutE {W : World} {B : Nat} {a : Option Addr} {n c : Nat} {l : List Ev} (h : OwV W B (.slice a (n + 1) c) (l ++ [mkE])) (hn : l.length = n) : RV W (.slice a n c) l ∧ n ≤ c ∧ ∃ g, a = some ⟨g, 0, none⟩ ∧ B ≤ g := by
  have hr := h.row
  unfold OwV at h
  rw [List.length_append, hn] at h
  obtain ⟨g, rfl, hc⟩ := own_cap h
  have hg := owns_ge h g rfl
  refine ⟨?_, by omega, g, rfl, hg⟩
  unfold RV at hr ⊢
  rw [List.length_append, hn] at hr
  rw [hn]
  refine RC.take1 hr fun j x hx => ?_
  rw [flat_append, List.getElem?_append_left (List.getElem?_eq_some_iff.1 hx).1]
  exact hx
theorem mk_cutN {W : World} {B : Nat} {a : Option Addr} {n c : Nat} {l : List Int} (h : OwN W B (.slice a (n + 1) c) (l ++ [171])) (hn : l.length = n) : RN W (.slice a n c) l ∧ n ≤ c ∧ ∃ g, a = some ⟨g, 0, none⟩ ∧ B ≤ g := by
  have hr := h.row
  unfold OwN at h
  rw [List.length_append, hn] at h
  obtain ⟨g, rfl, hc⟩ := own_cap h
  have hg := owns_ge h g rfl
  refine ⟨?_, by omega, g, rfl, hg⟩
  unfold RN at hr ⊢
  rw [List.length_append, hn] at hr
  rw [hn]
  refine RC.take1 hr fun j x hx => ?_
  rw [nC_app, List.getElem?_append_left (List.getElem?_eq_some_iff.1 hx).1]
  exact hx
theorem mk_evsC (W : World) (ty ty' : TypeId) (ul : Value) (l : List Ev) (hl : RV W ul l) (hn : l.length ≤ 10000) :
    ∃ v1 X1 g c X2, (Builtin.append_ #[22, 22] ty #[.slice (some ⟨W.heap.size, 0, none⟩) 0 0, ul]).run Try.prog (W.alloc (.cells #[] 27)) = .ok v1 X1 ∧
      (Builtin.append_ #[22, 22] ty' #[v1, .slice (some ⟨X1.heap.size, 0, none⟩) 1 1]).run Try.prog (X1.alloc (.cells #[.int .i64 171, .int .i64 0, .int .i64 0, .int .i64 0, .int .i64 0, .int .i64 0, .bool false] 27)) = .ok (.slice (some ⟨g, 0, none⟩) (l.length + 1) c) X2 ∧
      RV X2 (.slice (some ⟨g, 0, none⟩) (l.length + 1) c) (l ++ [mkE]) ∧ RV X2 (.slice (some ⟨g, 0, none⟩) l.length c) l ∧ l.length ≤ c ∧ Below W.heap.size W X2 := by
  obtain ⟨v1, X1, v2, X2, r1, r2, o2, b2⟩ := mk_evs W ty ty' ul l hl hn
  obtain ⟨a, c, e⟩ := OwV.form o2
  have e2 : (l ++ [mkE]).length = l.length + 1 := by simp
  rw [e2] at e
  subst e
  obtain ⟨h1, h2, g, rfl, _⟩ := mk_cutE o2 rfl
  exact ⟨v1, X1, g, c, X2, r1, r2, o2.row, h1, h2, b2⟩
theorem mk_intsC (W : World) (ty ty' : TypeId) (ul : Value) (l : List Int) (hl : RN W ul l) (hn : l.length ≤ 10000) :
    ∃ v1 X1 g c X2, (Builtin.append_ #[23, 23] ty #[.slice (some ⟨W.heap.size, 0, none⟩) 0 0, ul]).run Try.prog (W.alloc (.cells #[] 3)) = .ok v1 X1 ∧
      (Builtin.append_ #[23, 23] ty' #[v1, .slice (some ⟨X1.heap.size, 0, none⟩) 1 1]).run Try.prog (X1.alloc (.cells #[.int .i64 171] 3)) = .ok (.slice (some ⟨g, 0, none⟩) (l.length + 1) c) X2 ∧
      RN X2 (.slice (some ⟨g, 0, none⟩) (l.length + 1) c) (l ++ [171]) ∧ RN X2 (.slice (some ⟨g, 0, none⟩) l.length c) l ∧ l.length ≤ c ∧ Below W.heap.size W X2 := by
  obtain ⟨v1, X1, v2, X2, r1, r2, o2, b2⟩ := mk_ints W ty ty' ul l hl hn
  obtain ⟨a, c, e⟩ := OwN.form o2
  have e2 : (l ++ [(171 : Int)]).length = l.length + 1 := by simp
  rw [e2] at e
  subst e
  obtain ⟨h1, h2, g, rfl, _⟩ := mk_cutN o2 rfl
  exact ⟨v1, X1, g, c, X2, r1, r2, o2.row, h1, h2, b2⟩
/-- append(a, w) to a row of windows whatever is in it -/
theorem append_wx (w : World) (ty : TypeId) (v : Value) (n : Nat) (x : Int × Int) (h : OwX w 32 2 v n) (hl : n ≤ 1000000) :
    ∃ v' w', (Builtin.append_ #[28, 28] ty #[v, .slice (some ⟨w.heap.size, 0, none⟩) 1 1]).run Try.prog (w.alloc (.cells #[.int .i64 x.1, .int .i64 x.2] 32)) = .ok v' w' ∧ (∃ a c, v' = .slice a (n + 1) c) ∧ (w.alloc (.cells #[.int .i64 x.1, .int .i64 x.2] 32)).grownBy w' v.ownBlock := by
  obtain ⟨C, h⟩ := h
  obtain ⟨i0, hi, hz0, hz1, hz2⟩ := info_parts infoW
  have hbx := Bx.new w 32 #[.int .i64 x.1, .int .i64 x.2]
  obtain ⟨v', w', h1, h2, h3, h4, h5⟩ := run_append_own_at (P := Try.prog) (w.alloc (.cells #[.int .i64 x.1, .int .i64 x.2] 32)) 0 28 ty 32 i0 _ 2 16 Try.underlying28 hi hz0 hz1 hz2 rfl (by decide) v n C (World.ownsRow.alloc h _) ⟨w.heap.size, 0, none⟩ 1 1 (wnC x) rfl (fun j u hu => by
    rw [Addr.add_lit, Nat.zero_add]
    exact hbx.cell j u (by rw [← hu]; simp [wnC])) (fun u hu => by
      simp [wnC] at hu
      rcases hu with rfl | rfl <;> rfl) (by unfold maxLen; omega) (by omega) (by simp)
  exact ⟨v', w', h1, owns_form h2, h3⟩

theorem owns_lt {W : World} {B E k n : Nat} {v : Value} {C : List Value} (h : W.ownsRow B E k v n C) (i : Nat) (hi : v.ownBlock = some i) : i < W.heap.size := by
  obtain ⟨_, (⟨rfl, _⟩ | ⟨g, cap, cur, rfl, _, hg, _⟩)⟩ := h
  · cases hi
  · cases hi; exact (Array.getElem?_eq_some_iff.1 hg).1

end Go.Proofs.Ytmglnaldpcmakaa
