/-
  Rows of one's own, whatever is in them.
-/
import Derived.Test.YtkkolefionbbcaaGreatZXLG
import Derived.Test.YtkkolefionbbcaaGreatZXCQ0
import Derived.Test.YtkkolefionbbcaaGreatZEQ
import Derived.Test.YtkkolefionbbcaaGreatZO5
import Derived.Deep.RegionHeld3

set_option linter.unusedSimpArgs false
set_option linter.unusedVariables false
namespace Go.Proofs.YtkkolefionbbcaaGreat
open Go.RowKit Go.Lib

theorem own_base {W : World} {B B' E k n : Nat} {v : Value} {C : List Value} (h : W.ownsRow B E k v n C) (hb : B' ≤ B) : W.ownsRow B' E k v n C := by
  obtain ⟨h1, h2⟩ := h
  refine ⟨h1, h2.imp id ?_⟩
  rintro ⟨g, cap, cur, e1, e2, e3⟩
  exact ⟨g, cap, cur, e1, by omega, e3⟩
/-- each block is of the type and of the size that it was -/
def SS (W W' : World) : Prop := ∀ i t cur, Bx W i t cur → ∃ cur', Bx W' i t cur' ∧ cur'.size = cur.size
theorem SS.refl (W : World) : SS W W := fun i t cur h => ⟨cur, h, rfl⟩
theorem SS.trans {a b c : World} (h : SS a b) (k : SS b c) : SS a c := fun i t cur hx => by
  obtain ⟨c1, h1, e1⟩ := h i t cur hx
  obtain ⟨c2, h2, e2⟩ := k i t c1 h1
  exact ⟨c2, h2, e2.trans e1⟩
theorem SS.below {W W' : World} (hb : Below W.heap.size W W') : SS W W' := fun i t cur hx => ⟨cur, hx.below hb, rfl⟩
theorem SS.set (W : World) (b j : Nat) (v : Value) : SS W (W.setCell ⟨b, j, none⟩ v) := fun i t cur hx => by
  by_cases e : i = b
  · subst e; exact ⟨_, hx.set j v, by simp⟩
  · exact ⟨cur, hx.kp (Kp.set (N := fun k => k = b) W ⟨b, j, none⟩ v rfl) e, rfl⟩
theorem SS.grown {W W' : World} (h : W.grownBy W' none) : SS W W' := fun i t cur hx => ⟨cur, (h.block i hx.lt (by simp)).trans hx, rfl⟩

/-- a row of one's own -/
def OwX (W : World) (t : TypeId) (k : Nat) (v : Value) (n : Nat) : Prop := ∃ C, W.ownsRow 0 t k v n C
theorem OwX.ss {W W' : World} {t : TypeId} {k n : Nat} {v : Value} (h : OwX W t k v n) (s : SS W W') : OwX W' t k v n := by
  obtain ⟨C, h1, h2 | ⟨g, cap, cur, rfl, hb, hg, hc1, hc2, hc3, hc4⟩⟩ := h
  · exact ⟨C, h1, .inl h2⟩
  · obtain ⟨cur', hx, hs⟩ := s g t cur hg
    refine ⟨cur'.toList.take (n * k), ?_, .inr ⟨g, cap, cur', rfl, hb, hx, hc1, hc2, hs.trans hc3, rfl⟩⟩
    rw [List.length_take, Array.length_toList, hs, hc3]
    exact Nat.min_eq_left (Nat.mul_le_mul_right _ hc1)
theorem OwX.form {W : World} {t : TypeId} {k n : Nat} {v : Value} (h : OwX W t k v n) : ∃ a c, v = .slice a n c := by
  obtain ⟨C, h⟩ := h
  rcases h.2 with ⟨rfl, rfl⟩ | ⟨g, cap, cur, rfl, _⟩
  · exact ⟨_, _, rfl⟩
  · exact ⟨_, _, rfl⟩
theorem OwX.at {W : World} {t : TypeId} {k n c : Nat} {a : Option Addr} (h : OwX W t k (.slice a n c) n) (hn : 0 < n) : ∃ g, a = some ⟨g, 0, none⟩ ∧ g < W.heap.size ∧ (∀ x, W.frozen? ⟨g, x, none⟩ = false) ∧ (∀ q, q < n * k → ∃ u, W.cell? ⟨g, q, none⟩ = some u) ∧ ∃ cur, Bx W g t cur := by
  obtain ⟨C, h⟩ := h
  have h0 := h
  obtain ⟨h1, (⟨e, h2⟩ | ⟨g, cap, cur, e, hb, hg, hc1, hc2, hc3, hc4⟩)⟩ := h
  · omega
  simp at e
  obtain ⟨rfl, rfl⟩ := e
  have hbx : Bx W g t cur := hg
  refine ⟨g, rfl, hbx.lt, fun x => hbx.frozen x, fun q hq => ?_, cur, hbx⟩
  have := h0.cellAt q hq
  exact ⟨_, this.trans (List.getElem?_eq_getElem (by omega))⟩
theorem OwX.of {W : World} {B : Nat} {t : TypeId} {k n : Nat} {v : Value} {C : List Value} (h : W.ownsRow B t k v n C) : OwX W t k v n := ⟨C, own_base h (Nat.zero_le _)⟩


end Go.Proofs.YtkkolefionbbcaaGreat

/-
  The law's same, of what is the same.
-/
set_option linter.unusedSimpArgs false
set_option linter.unusedVariables false
namespace Go.Proofs.YtkkolefionbbcaaGreat
open Go.RowKit Go.Lib

theorem neqR (x y : (Int × Int) × Int) (w : World) : (binOp .neq 72 (.agg #[.int .i64 x.1.1, .int .i64 x.1.2, .int .i64 x.2]) (.agg #[.int .i64 y.1.1, .int .i64 y.1.2, .int .i64 y.2])).run Tryz.prog w = .ok (.bool (!decide (x = y))) w := by
  obtain ⟨⟨t, s⟩, c⟩ := x
  obtain ⟨⟨t', s'⟩, c'⟩ := y
  simp only
  by_cases h1 : t = t'
  · subst h1
    by_cases h2 : s = s'
    · subst h2
      by_cases h3 : c = c'
      · subst h3
        simp [go_sem]
      · have hd : decide ((((t, s), c) : (Int × Int) × Int) = ((t, s), c')) = false := by rw [decide_eq_false_iff_not]; intro e; exact h3 (by simpa using e)
        rw [hd]
        simp [go_sem, h3]
    · have hd : decide ((((t, s), c) : (Int × Int) × Int) = ((t, s'), c')) = false := by rw [decide_eq_false_iff_not]; intro e; simp at e; exact h2 e.1
      rw [hd]
      simp [go_sem, h2]
  · have hd : decide ((((t, s), c) : (Int × Int) × Int) = ((t', s'), c')) = false := by rw [decide_eq_false_iff_not]; intro e; simp at e; exact h1 e.1.1
    rw [hd]
    simp [go_sem, h1]

theorem neqID (t s : Int) (w : World) : (binOp .neq 39 (.agg #[.int .i64 t, .int .i64 s]) (.agg #[.int .i64 t, .int .i64 s])).run Tryz.prog w = .ok (.bool false) w := by simp [go_sem]

set_option maxRecDepth 100000 in
set_option maxHeartbeats 4000000 in
theorem lsame_in (o : Opn) (vd vg ud ug : Value) (w : World) (hd : RI w vd o.deps) (hg : RR w vg o.gone) (hd' : RI w ud o.deps) (hg' : RR w ug o.gone) (l1 : o.deps.length ≤ 1000000) (l2 : o.gone.length ≤ 1000000) :
    Calls Tryz.prog 17 #[opA o vd vg, opA o ud ug] w fun e W => e = .returned (.bool true) ∧ Below w.heap.size w W := by
  obtain ⟨ad, cd, rfl⟩ := hd.form
  obtain ⟨ag, cg, rfl⟩ := RC.form hg
  obtain ⟨bd, dd, rfl⟩ := hd'.form
  obtain ⟨bg, dg, rfl⟩ := RC.form hg'
  unfold opA
  obtain ⟨L, hL⟩ : ∃ L, o.deps.length = L := ⟨_, rfl⟩
  obtain ⟨M, hM⟩ : ∃ M, o.gone.length = M := ⟨_, rfl⟩
  rw [hL] at hd hd' l1 ⊢
  rw [hM] at hg hg' l2 ⊢
  obtain ⟨X, hX⟩ : ∃ X, (w.alloc (.cells #[.int .i64 o.ds, .int .i64 o.dq, .slice ad L cd, .int .i64 o.kind, .int .i64 o.it, .int .i64 o.is, .int .i64 o.rt, .int .i64 o.rs, .string o.text, .slice ag M cg, .int .i64 o.site] 42)).alloc (.cells #[.int .i64 o.ds, .int .i64 o.dq, .slice bd L dd, .int .i64 o.kind, .int .i64 o.it, .int .i64 o.is, .int .i64 o.rt, .int .i64 o.rs, .string o.text, .slice bg M dg, .int .i64 o.site] 42) = X := ⟨_, rfl⟩
  have HA : Bx X w.heap.size 42 #[.int .i64 o.ds, .int .i64 o.dq, .slice ad L cd, .int .i64 o.kind, .int .i64 o.it, .int .i64 o.is, .int .i64 o.rt, .int .i64 o.rs, .string o.text, .slice ag M cg, .int .i64 o.site] := by rw [← hX]; exact (Bx.new w _ _).below (ballc (Below.refl _ _) _)
  have HB : Bx X (w.heap.size + 1) 42 #[.int .i64 o.ds, .int .i64 o.dq, .slice bd L dd, .int .i64 o.kind, .int .i64 o.it, .int .i64 o.is, .int .i64 o.rt, .int .i64 o.rs, .string o.text, .slice bg M dg, .int .i64 o.site] := by
    rw [← hX]
    have := Bx.new (w.alloc (.cells #[.int .i64 o.ds, .int .i64 o.dq, .slice ad L cd, .int .i64 o.kind, .int .i64 o.it, .int .i64 o.is, .int .i64 o.rt, .int .i64 o.rs, .string o.text, .slice ag M cg, .int .i64 o.site] 42)) 42 #[.int .i64 o.ds, .int .i64 o.dq, .slice bd L dd, .int .i64 o.kind, .int .i64 o.it, .int .i64 o.is, .int .i64 o.rt, .int .i64 o.rs, .string o.text, .slice bg M dg, .int .i64 o.site]
    rw [World.size_alloc] at this
    exact this
  have B0 : Below w.heap.size w X := by rw [← hX]; exact ballc (ballc (Below.refl _ _) _) _
  have HV := hide (Same_in o.deps o.deps _ _ X (hd.below B0) (hd'.below B0) (by omega) (by omega))
  rw [decide_eq_true rfl] at HV
  have HG : Hid (RR X (.slice ag M cg) o.gone) := RC.below hg B0
  have HG' : Hid (RR X (.slice bg M dg) o.gone) := RC.below hg' B0
  have HM := hide hM
  replace B0 := hide B0
  have hqD : ∀ W, (binOp .neq 28 (.agg #[.int .i64 o.ds, .int .i64 o.dq]) (.agg #[.int .i64 o.ds, .int .i64 o.dq])).run Tryz.prog W = .ok (.bool false) W := fun W => by rw [neqD, decide_eq_true rfl]; rfl
  have hqI := neqID o.it o.is
  have hqR := neqID o.rt o.rs
  obtain ⟨a0, a1, a2, a3, a4, a5, a6, a7, a8, a9, a10⟩ := cells_op HA
  obtain ⟨b0, b1, b2, b3, b4, b5, b6, b7, b8, b9, b10⟩ := cells_op HB
  have al := HA.lt
  have bl := HB.lt
  replace HA := hide HA
  replace HB := hide HB
  clear hd hd' hg hg' hL hM
  go_enter Tryz.func17, Tryz.ntmps17
  go_wp2_with fail
  refine (unhide HV).mono ?_
  rintro r W1 ⟨rfl, n1, rfl⟩
  clear HV hX hqD hqI hqR a0 a1 a2 a3 a4 a5 a6 a7 a8 a10 b0 b1 b2 b3 b4 b5 b6 b7 b8 b10
  go_wp2
  go_loopw [5] (fun jv wr => ∃ j n : Nat, j ≤ M ∧ jv = .int .i64 (j : Nat) ∧ wr = X.drewN n) (fun jv _ => M - (RowKit.intOf jv).toNat)
  case atStart => exact ⟨0, n1, by omega, rfl, rfl⟩
  case round =>
    obtain ⟨j, nd2, hj, rfl, rfl⟩ := hrel
    by_cases hlt2 : j < M
    · have hlt' : j < o.gone.length := by rw [unhide HM]; exact hlt2
      obtain ⟨b, off, rfl, q0, c0, c1, c2⟩ := RR.at (unhide HG) (List.getElem?_eq_getElem hlt')
      obtain ⟨b', off', rfl, q1, d0, d1, d2⟩ := RR.at (unhide HG') (List.getElem?_eq_getElem hlt')
      have i2 : (j : Int) < (M : Int) := by omega
      have hnq := neqR o.gone[j] o.gone[j]
      rw [decide_eq_true rfl] at hnq
      generalize o.gone[j] = e at *
      obtain ⟨⟨t, s⟩, c⟩ := e
      (try simp only at *)
      go_wp2
      go_quiet (fail)
      go_wp2
      go_roundw
      case rel => exact ⟨j + 1, _, by omega, by go_num, rfl⟩
      case measure => simp [RowKit.intOf]; omega
    · have i2 : ¬ (j : Int) < (M : Int) := by omega
      go_wp2
      go_ret
      exact ⟨rfl, bdrew (unhide B0) _⟩


end Go.Proofs.YtkkolefionbbcaaGreat

/-
  The law's lent and back.
-/
set_option linter.unusedSimpArgs false
set_option linter.unusedVariables false
namespace Go.Proofs.YtkkolefionbbcaaGreat
open Go.RowKit Go.Lib

theorem append_run (w : World) (ty : TypeId) (N : Nat) (v : Value) (l : List ((Int × Int) × Int)) (x y z : Int) (nb : Nat) (h : OwR w N v l) (hbx : Bx w nb 72 #[.int .i64 x, .int .i64 y, .int .i64 z]) (hN : N ≤ w.heap.size) (hl : l.length ≤ 1000000) :
    ∃ v' w', (Builtin.append_ #[40, 40] ty #[v, .slice (some ⟨nb, 0, none⟩) 1 1]).run Tryz.prog w = .ok v' w' ∧ OwR w' N v' (l ++ [((x, y), z)]) ∧ w.grownBy w' v.ownBlock := by
  obtain ⟨i0, hi, hz0, hz1, hz2⟩ := info_parts infoRu
  obtain ⟨v', w', h1, h2, h3, h4, h5⟩ := run_append_own_at (P := Tryz.prog) w N 40 ty 72 i0 _ 3 24 Tryz.underlying40 hi hz0 hz1 hz2 rfl (by decide) v l.length _ h ⟨nb, 0, none⟩ 1 1 [.int .i64 x, .int .i64 y, .int .i64 z] rfl (fun j u hu => by
    rw [Addr.add_lit, Nat.zero_add]
    exact hbx.cell j u (by rw [← hu]; simp)) (fun u hu => by simp at hu; rcases hu with rfl | rfl | rfl <;> rfl) (by unfold maxLen; omega) (by omega) (by first | omega | (simp; omega))
  refine ⟨v', w', h1, ?_, h3⟩
  unfold OwR
  rw [flat_append]
  simpa [show flat encR [((x, y), z)] = [.int .i64 x, .int .i64 y, .int .i64 z] from rfl] using h2

theorem sl_toVt (w : World) (a : Option Addr) (n c k : Nat) (hk : k ≤ c) :
    (Instr.sliceAt 23 (.slice a n c) none (some (.int .i64 (k : Nat))) none).run Tryz.prog w = .ok (.slice a k c) w := by
  obtain ⟨i0, hi, hz0, hz1, hz2⟩ := info_parts infoD
  have h1 : (k : Int) ≤ (c : Int) := by omega
  simp [Instr.sliceAt, Instr.slice, run_underlying Tryz.underlying23, sizeOf, typeInfo, hi, hz1, go_sem, h1, hk]
theorem sl_toRt (w : World) (a : Option Addr) (n c k : Nat) (hk : k ≤ c) :
    (Instr.sliceAt 40 (.slice a n c) none (some (.int .i64 (k : Nat))) none).run Tryz.prog w = .ok (.slice a k c) w := by
  obtain ⟨i0, hi, hz0, hz1, hz2⟩ := info_parts infoRu
  have h1 : (k : Int) ≤ (c : Int) := by omega
  simp [Instr.sliceAt, Instr.slice, run_underlying Tryz.underlying40, sizeOf, typeInfo, hi, hz1, go_sem, h1, hk]

/-- an operation's lists in rows of their own, a mark behind each -/
structure Tw (W : World) (B : Nat) (deps : List (Int × Int)) (gone : List ((Int × Int) × Int)) (gd cd gg cg : Nat) : Prop where
  d : W.ownsRow B 28 2 (.slice (some ⟨gd, 0, none⟩) (deps.length + 1) cd) (deps.length + 1) (flat encI (deps ++ [(901, 902)]))
  g : W.ownsRow B 72 3 (.slice (some ⟨gg, 0, none⟩) (gone.length + 1) cg) (gone.length + 1) (flat encR (gone ++ [((0, 0), 903)]))
theorem Tw.below {W W' : World} {B : Nat} {deps : List (Int × Int)} {gone : List ((Int × Int) × Int)} {gd cd gg cg : Nat} (h : Tw W B deps gone gd cd gg cg) (hb : Below W.heap.size W W') : Tw W' B deps gone gd cd gg cg :=
  ⟨owns_kp h.d (Kp.of_below (N := fun _ => False) hb) (fun _ _ e => e), owns_kp h.g (Kp.of_below (N := fun _ => False) hb) (fun _ _ e => e)⟩
theorem RC.take1 {W : World} {a : Option Addr} {n c : Nat} {C D : List Value} (h : RC W (.slice a (n + 1) c) (n + 1) C) (hD : ∀ (j : Nat) (x : Value), D[j]? = some x → C[j]? = some x) : RC W (.slice a n c) n D := by
  rcases h with ⟨h0, _⟩ | ⟨b, off, cap, e, h1, h2, h3⟩
  · omega
  · simp at e
    obtain ⟨rfl, rfl⟩ := e
    exact .inr ⟨b, off, c, rfl, by omega, h2, fun j x hx => h3 j x (hD j x hx)⟩
theorem Tw.ri {W : World} {B : Nat} {deps : List (Int × Int)} {gone : List ((Int × Int) × Int)} {gd cd gg cg : Nat} (h : Tw W B deps gone gd cd gg cg) : RI W (.slice (some ⟨gd, 0, none⟩) deps.length cd) deps :=
  RC.take1 (RC.of_owns h.d) (fun j x hx => by rw [flat_append]; exact (List.getElem?_append_left (List.getElem?_eq_some_iff.1 hx).1).trans hx)
theorem Tw.rr {W : World} {B : Nat} {deps : List (Int × Int)} {gone : List ((Int × Int) × Int)} {gd cd gg cg : Nat} (h : Tw W B deps gone gd cd gg cg) : RR W (.slice (some ⟨gg, 0, none⟩) gone.length cg) gone :=
  RC.take1 (RC.of_owns h.g) (fun j x hx => by rw [flat_append]; exact (List.getElem?_append_left (List.getElem?_eq_some_iff.1 hx).1).trans hx)
theorem own_cap {W : World} {B E k n : Nat} {a : Option Addr} {c : Nat} {C : List Value} (h : W.ownsRow B E k (.slice a (n + 1) c) (n + 1) C) : ∃ g, a = some ⟨g, 0, none⟩ ∧ n + 1 ≤ c := by
  obtain ⟨_, (⟨_, h0⟩ | ⟨g, cap, cur, e, _, _, h1, _⟩)⟩ := h
  · omega
  · simp at e
    obtain ⟨rfl, rfl⟩ := e
    exact ⟨g, rfl, h1⟩

theorem owns_wk {W : World} {B B' E k n : Nat} {v : Value} {C : List Value} (h : W.ownsRow B E k v n C) (hb : B' ≤ B) : W.ownsRow B' E k v n C := by
  obtain ⟨h1, h2⟩ := h
  refine ⟨h1, ?_⟩
  rcases h2 with h2 | ⟨g, cap, cur, e, hbg, hg, hc1, hc2, hc3, hc4⟩
  · exact .inl h2
  · exact .inr ⟨g, cap, cur, e, Nat.le_trans hb hbg, hg, hc1, hc2, hc3, hc4⟩
set_option maxRecDepth 100000 in
set_option maxHeartbeats 8000000 in
theorem lent_in (o : Opn) (ad ag : Option Addr) (cd cg : Nat) (w : World) (hd : RI w (.slice ad o.deps.length cd) o.deps) (hg : RR w (.slice ag o.gone.length cg) o.gone) (hs1 : o.deps.length ≤ 100000) (hs2 : o.gone.length ≤ 100000) :
    Calls Tryz.prog 35 #[.agg #[.int .i64 o.ds, .int .i64 o.dq, .slice ad o.deps.length cd, .int .i64 o.kind, .int .i64 o.it, .int .i64 o.is, .int .i64 o.rt, .int .i64 o.rs, .string o.text, .slice ag o.gone.length cg, .int .i64 o.site]] w fun e W => ∃ gd c1 gg c2, e = .returned (.agg #[.int .i64 o.ds, .int .i64 o.dq, .slice (some ⟨gd, 0, none⟩) o.deps.length c1, .int .i64 o.kind, .int .i64 o.it, .int .i64 o.is, .int .i64 o.rt, .int .i64 o.rs, .string o.text, .slice (some ⟨gg, 0, none⟩) o.gone.length c2, .int .i64 o.site]) ∧ Tw W w.heap.size o.deps o.gone gd c1 gg c2 ∧ Below w.heap.size w W := by
  obtain ⟨X, hX⟩ : ∃ X, w.alloc (.cells #[.int .i64 o.ds, .int .i64 o.dq, .slice ad o.deps.length cd, .int .i64 o.kind, .int .i64 o.it, .int .i64 o.is, .int .i64 o.rt, .int .i64 o.rs, .string o.text, .slice ag o.gone.length cg, .int .i64 o.site] 42) = X := ⟨_, rfl⟩
  have HX : Bx X w.heap.size 42 #[.int .i64 o.ds, .int .i64 o.dq, .slice ad o.deps.length cd, .int .i64 o.kind, .int .i64 o.it, .int .i64 o.is, .int .i64 o.rt, .int .i64 o.rs, .string o.text, .slice ag o.gone.length cg, .int .i64 o.site] := by rw [← hX]; exact Bx.new w _ _
  have bX : Below w.heap.size w X := by rw [← hX]; exact ballc (Below.refl _ _) _
  obtain ⟨Y, hY⟩ : ∃ Y, X.alloc (.cells #[.int .i64 0, .int .i64 0, .slice none 0 0, .int .i64 0, .int .i64 0, .int .i64 0, .int .i64 0, .int .i64 0, .string ⟨#[]⟩, .slice none 0 0, .int .i64 0] 42) = Y := ⟨_, rfl⟩
  have HY : Bx Y X.heap.size 42 #[.int .i64 0, .int .i64 0, .slice none 0 0, .int .i64 0, .int .i64 0, .int .i64 0, .int .i64 0, .int .i64 0, .string ⟨#[]⟩, .slice none 0 0, .int .i64 0] := by rw [← hY]; exact Bx.new X _ _
  have bXY : Below X.heap.size X Y := by rw [← hY]; exact ballc (Below.refl _ _) _
  have bY := bnext bX bXY
  have HXY := HX.below bXY
  have hxs : X.heap.size = w.heap.size + 1 := by rw [← hX]; simp
  rw [hxs] at HY
  -- the lists
  obtain ⟨v1, W1, hap1, ho1, hg1⟩ := app_nil 23 28 2 16 _ Tryz.underlying23 infoD rfl (by decide) Y Y.heap.size 23 _ o.deps.length (flat encI o.deps) (hd.below bY) (flat_len encI_len o.deps) encI_oneT (Nat.le_refl _) (by unfold maxLen; omega) (by omega)
  have b1 : Below Y.heap.size Y W1 := (Below.refl _ Y).grown hg1 (Nat.le_refl _) (fun k hk => by cases hk)
  obtain ⟨v2, W2, hap2, ho2, hg2, -⟩ := append_dot W1 23 Y.heap.size v1 o.deps 901 902 ho1 b1.size (by omega)
  have b2 : Below Y.heap.size Y W2 := (ballc b1 _).grown hg2 (ballc b1 _).size (fun k hk => (ho1.lt k hk).1)
  obtain ⟨v3, W3, hap3, ho3, hg3⟩ := app_nil 40 72 3 24 _ Tryz.underlying40 infoRu rfl (by decide) W2 W2.heap.size 40 _ o.gone.length (flat encR o.gone) (RC.below (RC.below hg bY) b2) (flat_len encR_len o.gone) encR_oneT (Nat.le_refl _) (by unfold maxLen; omega) (by omega)
  have b23 : Below W2.heap.size W2 W3 := (Below.refl _ W2).grown hg3 (Nat.le_refl _) (fun k hk => by cases hk)
  have b3 : Below Y.heap.size Y W3 := bnext b2 b23
  obtain ⟨V, hV⟩ : ∃ V, W3.alloc (.cells #[.int .i64 0, .int .i64 0, .int .i64 903] 72) = V := ⟨_, rfl⟩
  have bV : Below W3.heap.size W3 V := by rw [← hV]; exact ballc (Below.refl _ _) _
  have xV : Bx V W3.heap.size 72 #[.int .i64 0, .int .i64 0, .int .i64 903] := by rw [← hV]; exact Bx.new W3 _ _
  obtain ⟨v4, W4, hap4, ho4, hg4⟩ := append_run V 40 W2.heap.size v3 o.gone 0 0 903 W3.heap.size (show OwR V W2.heap.size v3 o.gone from owns_kp ho3 (Kp.of_below (N := fun _ => False) bV) (fun _ _ e => e)) xV (by have := b23.size; have := bV.size; omega) (by omega)
  have b24 : Below W2.heap.size W2 W4 := (bnext b23 bV).grown hg4 (bnext b23 bV).size (fun k hk => (ho3.lt k hk).1)
  have b4 : Below Y.heap.size Y W4 := bnext b2 b24
  have o2 := owns_kp ho2 (Kp.of_below (N := fun _ => False) b24) (fun _ _ e => e)
  have l2 : (o.deps ++ [((901 : Int), (902 : Int))]).length = o.deps.length + 1 := by simp
  have l4 : (o.gone ++ [(((0 : Int), (0 : Int)), (903 : Int))]).length = o.gone.length + 1 := by simp
  have o4 : W4.ownsRow W2.heap.size 72 3 v4 (o.gone ++ [((0, 0), 903)]).length (flat encR (o.gone ++ [((0, 0), 903)])) := ho4
  rw [l2] at o2
  rw [l4] at o4
  obtain ⟨a2, c1, rfl⟩ := owns_form o2
  obtain ⟨a4, c2, rfl⟩ := owns_form o4
  obtain ⟨gd, rfl, hc1⟩ := own_cap o2
  obtain ⟨gg, rfl, hc2⟩ := own_cap o4
  have hgd := (o2.lt gd rfl).1
  have hgg := (o4.lt gg rfl).1
  have ys := b2.size
  have hsl1 := fun W n => sl_toVt W (some ⟨gd, 0, none⟩) n c1 o.deps.length (by omega)
  have hsl2 := fun W n => sl_toRt W (some ⟨gg, 0, none⟩) n c2 o.gone.length (by omega)
  -- the boxes behind them
  have x2 := HXY.below b2
  have x4 := HXY.below b4
  have y4 := HY.below b4
  obtain ⟨Z1, hZ1⟩ : ∃ Z, W4.setCell ⟨w.heap.size, 2, none⟩ (.slice (some ⟨gd, 0, none⟩) o.deps.length c1) = Z := ⟨_, rfl⟩
  have z1 : Bx Z1 w.heap.size 42 #[.int .i64 o.ds, .int .i64 o.dq, .slice (some ⟨gd, 0, none⟩) o.deps.length c1, .int .i64 o.kind, .int .i64 o.it, .int .i64 o.is, .int .i64 o.rt, .int .i64 o.rs, .string o.text, .slice ag o.gone.length cg, .int .i64 o.site] := by rw [← hZ1]; simpa using x4.set 2 (.slice (some ⟨gd, 0, none⟩) o.deps.length c1)
  obtain ⟨Z2, hZ2⟩ : ∃ Z, Z1.setCell ⟨w.heap.size, 9, none⟩ (.slice (some ⟨gg, 0, none⟩) o.gone.length c2) = Z := ⟨_, rfl⟩
  have z2 : Bx Z2 w.heap.size 42 #[.int .i64 o.ds, .int .i64 o.dq, .slice (some ⟨gd, 0, none⟩) o.deps.length c1, .int .i64 o.kind, .int .i64 o.it, .int .i64 o.is, .int .i64 o.rt, .int .i64 o.rs, .string o.text, .slice (some ⟨gg, 0, none⟩) o.gone.length c2, .int .i64 o.site] := by rw [← hZ2]; simpa using z1.set 9 (.slice (some ⟨gg, 0, none⟩) o.gone.length c2)
  have kp2 : Kp (fun k => k = w.heap.size) W4 Z2 := by rw [← hZ2, ← hZ1]; exact (Kp.set (N := fun k => k = w.heap.size) W4 ⟨w.heap.size, 2, none⟩ _ rfl).trans (Kp.set (N := fun k => k = w.heap.size) _ ⟨w.heap.size, 9, none⟩ _ rfl) (fun i h => .inl h)
  have yz : Bx Z2 (w.heap.size + 1) 42 #[.int .i64 0, .int .i64 0, .slice none 0 0, .int .i64 0, .int .i64 0, .int .i64 0, .int .i64 0, .int .i64 0, .string ⟨#[]⟩, .slice none 0 0, .int .i64 0] := y4.kp kp2 (by omega)
  have y3 := Bx.set11 (x0 := .int .i64 o.ds) (x1 := .int .i64 o.dq) (x2 := .slice (some ⟨gd, 0, none⟩) o.deps.length c1) (x3 := .int .i64 o.kind) (x4 := .int .i64 o.it) (x5 := .int .i64 o.is) (x6 := .int .i64 o.rt) (x7 := .int .i64 o.rs) (x8 := .string o.text) (x9 := .slice (some ⟨gg, 0, none⟩) o.gone.length c2) (x10 := .int .i64 o.site) yz
  have kp3 := Kp.set11 Z2 (w.heap.size + 1) (.int .i64 o.ds) (.int .i64 o.dq) (.slice (some ⟨gd, 0, none⟩) o.deps.length c1) (.int .i64 o.kind) (.int .i64 o.it) (.int .i64 o.is) (.int .i64 o.rt) (.int .i64 o.rs) (.string o.text) (.slice (some ⟨gg, 0, none⟩) o.gone.length c2) (.int .i64 o.site)
  generalize hZ3 : (((((((((((Z2.setCell ⟨w.heap.size + 1, 0, none⟩ (.int .i64 o.ds)).setCell ⟨w.heap.size + 1, 1, none⟩ (.int .i64 o.dq)).setCell ⟨w.heap.size + 1, 2, none⟩ (.slice (some ⟨gd, 0, none⟩) o.deps.length c1)).setCell ⟨w.heap.size + 1, 3, none⟩ (.int .i64 o.kind)).setCell ⟨w.heap.size + 1, 4, none⟩ (.int .i64 o.it)).setCell ⟨w.heap.size + 1, 5, none⟩ (.int .i64 o.is)).setCell ⟨w.heap.size + 1, 6, none⟩ (.int .i64 o.rt)).setCell ⟨w.heap.size + 1, 7, none⟩ (.int .i64 o.rs)).setCell ⟨w.heap.size + 1, 8, none⟩ (.string o.text)).setCell ⟨w.heap.size + 1, 9, none⟩ (.slice (some ⟨gg, 0, none⟩) o.gone.length c2)).setCell ⟨w.heap.size + 1, 10, none⟩ (.int .i64 o.site)) = Z3 at y3 kp3
  have hw4 : Below w.heap.size w Z3 := kp3.below (kp2.below (bnext bY b4) (fun i e => by omega)) (fun i e => by omega)
  have hYs : w.heap.size + 1 < Y.heap.size := by have := HY.lt; omega
  have htw : Tw Z3 w.heap.size o.deps o.gone gd c1 gg c2 := by
    have h1 := owns_kp (owns_kp o2 kp2 (fun i hi e => by have := (o2.lt i hi).1; omega)) kp3 (fun i hi e => by have := (o2.lt i hi).1; omega)
    have h2 := owns_kp (owns_kp o4 kp2 (fun i hi e => by have := (o4.lt i hi).1; omega)) kp3 (fun i hi e => by have := (o4.lt i hi).1; omega)
    exact ⟨owns_wk h1 (by omega), owns_wk h2 (by omega)⟩
  have HW := hide hw4
  have HT := hide htw
  have Hy3 := hide y3
  obtain ⟨p0, p1, p2, p3, p4, p5, p6, p7, p8, p9, p10⟩ := cells_op HXY
  obtain ⟨q0, q1, q2, q3, q4, q5, q6, q7, q8, q9, q10⟩ := cells_op x2
  obtain ⟨r0, r1, r2, r3, r4, r5, r6, r7, r8, r9, r10⟩ := cells_op x4
  have rf2 := x4.frozen 2
  obtain ⟨s0, s1, s2, s3, s4, s5, s6, s7, s8, s9, s10⟩ := cells_op z1
  have sf9 := z1.frozen 9
  obtain ⟨t0, t1, t2, t3, t4, t5, t6, t7, t8, t9, t10⟩ := cells_op z2
  obtain ⟨u0, u1, u2, u3, u4, u5, u6, u7, u8, u9, u10⟩ := cells_op yz
  have uf0 := yz.frozen 0
  have uf1 := yz.frozen 1
  have uf2 := yz.frozen 2
  have uf3 := yz.frozen 3
  have uf4 := yz.frozen 4
  have uf5 := yz.frozen 5
  have uf6 := yz.frozen 6
  have uf7 := yz.frozen 7
  have uf8 := yz.frozen 8
  have uf9 := yz.frozen 9
  have uf10 := yz.frozen 10
  replace hap1 := hide hap1
  replace hap2 := hide hap2
  replace hap3 := hide hap3
  replace hap4 := hide hap4
  clear HX bX HY bXY bY HXY ho1 hg1 b1 ho2 hg2 b2 ho3 hg3 b23 b3 bV xV ho4 hg4 b24 b4 o2 o4 l2 l4 hc1 hc2 hgd hgg ys x2 x4 y4 z1 z2 kp2 yz y3 kp3 hw4 hYs htw hd hg
  go_enter Tryz.func35, Tryz.ntmps35
  go_wp2_with (at_builtin; first | (have H1 := hap1; clear hap1; refine wpList_append_eq rfl _ _ 23 rfl _ _ _ _ rfl rfl (unhide H1) ?_; clear H1) | (have H2 := hap2; clear hap2; refine wpList_append_eq rfl _ _ 23 rfl _ _ _ _ rfl rfl (unhide H2) ?_; clear H2) | (have H3 := hap3; clear hap3; refine wpList_append_eq rfl _ _ 40 rfl _ _ _ _ rfl rfl (unhide H3) ?_; clear H3) | (have H4 := hap4; clear hap4; refine wpList_append_eq rfl _ _ 40 rfl _ _ _ _ rfl rfl (unhide H4) ?_; clear H4))
  refine bodyPost_ret (results_cell_row rfl _ _ (w.heap.size + 1) _ _ _ _ rfl (unhide Hy3) Tryz.underlying42 rfl sizeOp) rfl ?_
  exact ⟨gd, c1, gg, c2, rfl, unhide HT, unhide HW⟩

theorem Tw.capd {W : World} {B : Nat} {deps : List (Int × Int)} {gone : List ((Int × Int) × Int)} {gd cd gg cg : Nat} (h : Tw W B deps gone gd cd gg cg) : deps.length + 1 ≤ cd ∧ gone.length + 1 ≤ cg := by
  obtain ⟨_, _, h1⟩ := own_cap h.d
  obtain ⟨_, _, h2⟩ := own_cap h.g
  exact ⟨h1, h2⟩
theorem Tw.md {W : World} {B : Nat} {deps : List (Int × Int)} {gone : List ((Int × Int) × Int)} {gd cd gg cg : Nat} (h : Tw W B deps gone gd cd gg cg) : W.cell? ⟨gd, deps.length * 2, none⟩ = some (.int .i64 901) ∧ W.cell? ⟨gd, deps.length * 2 + 1, none⟩ = some (.int .i64 902) ∧ W.cell? ⟨gg, gone.length * 3 + 2, none⟩ = some (.int .i64 903) := by
  have hx : (deps ++ [((901 : Int), (902 : Int))])[deps.length]? = some (901, 902) := by simp
  have hy : (gone ++ [(((0 : Int), (0 : Int)), (903 : Int))])[gone.length]? = some ((0, 0), 903) := by simp
  have h0 := h.d.cellAt (deps.length * 2) (by omega)
  have h1 := h.d.cellAt (deps.length * 2 + 1) (by omega)
  have h2 := h.g.cellAt (gone.length * 3 + 2) (by omega)
  rw [show deps.length * 2 = deps.length * 2 + 0 from rfl, flat_get encI_len _ deps.length 0 _ hx (by omega)] at h0
  rw [flat_get encI_len _ deps.length 1 _ hx (by omega)] at h1
  rw [flat_get encR_len _ gone.length 2 _ hy (by omega)] at h2
  exact ⟨h0, h1, h2⟩

set_option maxRecDepth 100000 in
set_option maxHeartbeats 8000000 in
theorem back_in (o : Opn) (ad ag : Option Addr) (cd cg : Nat) (B gd c1 gg c2 : Nat) (w : World) (ht : Tw w B o.deps o.gone gd c1 gg c2) (hd : RI w (.slice ad o.deps.length cd) o.deps) (hg : RR w (.slice ag o.gone.length cg) o.gone) (hs1 : o.deps.length ≤ 100000) (hs2 : o.gone.length ≤ 100000) :
    Calls Tryz.prog 37 #[.agg #[.int .i64 o.ds, .int .i64 o.dq, .slice (some ⟨gd, 0, none⟩) o.deps.length c1, .int .i64 o.kind, .int .i64 o.it, .int .i64 o.is, .int .i64 o.rt, .int .i64 o.rs, .string o.text, .slice (some ⟨gg, 0, none⟩) o.gone.length c2, .int .i64 o.site], .agg #[.int .i64 o.ds, .int .i64 o.dq, .slice ad o.deps.length cd, .int .i64 o.kind, .int .i64 o.it, .int .i64 o.is, .int .i64 o.rt, .int .i64 o.rs, .string o.text, .slice ag o.gone.length cg, .int .i64 o.site]] w fun e W => e = .returned (.bool true) ∧ Kp (fun i => i = gd ∨ i = gg) w W := by
  obtain ⟨X, hX⟩ : ∃ X, w.alloc (.cells #[.int .i64 o.ds, .int .i64 o.dq, .slice (some ⟨gd, 0, none⟩) o.deps.length c1, .int .i64 o.kind, .int .i64 o.it, .int .i64 o.is, .int .i64 o.rt, .int .i64 o.rs, .string o.text, .slice (some ⟨gg, 0, none⟩) o.gone.length c2, .int .i64 o.site] 42) = X := ⟨_, rfl⟩
  have HX : Bx X w.heap.size 42 #[.int .i64 o.ds, .int .i64 o.dq, .slice (some ⟨gd, 0, none⟩) o.deps.length c1, .int .i64 o.kind, .int .i64 o.it, .int .i64 o.is, .int .i64 o.rt, .int .i64 o.rs, .string o.text, .slice (some ⟨gg, 0, none⟩) o.gone.length c2, .int .i64 o.site] := by rw [← hX]; exact Bx.new w _ _
  have bX : Below w.heap.size w X := by rw [← hX]; exact ballc (Below.refl _ _) _
  obtain ⟨Y, hY⟩ : ∃ Y, X.alloc (.cells #[.int .i64 o.ds, .int .i64 o.dq, .slice ad o.deps.length cd, .int .i64 o.kind, .int .i64 o.it, .int .i64 o.is, .int .i64 o.rt, .int .i64 o.rs, .string o.text, .slice ag o.gone.length cg, .int .i64 o.site] 42) = Y := ⟨_, rfl⟩
  have HY : Bx Y X.heap.size 42 #[.int .i64 o.ds, .int .i64 o.dq, .slice ad o.deps.length cd, .int .i64 o.kind, .int .i64 o.it, .int .i64 o.is, .int .i64 o.rt, .int .i64 o.rs, .string o.text, .slice ag o.gone.length cg, .int .i64 o.site] := by rw [← hY]; exact Bx.new X _ _
  have bXY : Below X.heap.size X Y := by rw [← hY]; exact ballc (Below.refl _ _) _
  have bY := bnext bX bXY
  have HXY := HX.below bXY
  have HSm := hide (lsame_in o _ _ _ _ Y (ht.below bY).ri (ht.below bY).rr (hd.below bY) (RC.below hg bY) (by omega) (by omega))
  unfold opA at HSm
  have HT := hide (fun (W : World) (h : Below Y.heap.size Y W) => (ht.below bY).below h)
  have HA := hide (fun (W : World) (h : Below Y.heap.size Y W) => HXY.below h)
  obtain ⟨hc1, hc2⟩ := ht.capd
  have hsl1 := fun W n => sl_toVt W (some ⟨gd, 0, none⟩) n c1 (o.deps.length + 1) hc1
  have hsl2 := fun W n => sl_toRt W (some ⟨gg, 0, none⟩) n c2 (o.gone.length + 1) hc2
  obtain ⟨p0, p1, p2, p3, p4, p5, p6, p7, p8, p9, p10⟩ := cells_op HXY
  obtain ⟨q0, q1, q2, q3, q4, q5, q6, q7, q8, q9, q10⟩ := cells_op HY
  obtain ⟨n, hn⟩ : ∃ n, o.deps.length = n := ⟨_, rfl⟩
  obtain ⟨k, hk⟩ : ∃ k, o.gone.length = k := ⟨_, rfl⟩
  have HB := hide bY
  have Hn := hide hn
  have Hk := hide hk
  rw [hn] at hs1 hsl1 p2 q2 HSm HA hX hY ⊢
  rw [hk] at hs2 hsl2 p9 q9 HSm HA hX hY ⊢
  have e1 : ((n + 1 : Nat) : Int) = (n : Int) + 1 := by omega
  have e2 : ((k + 1 : Nat) : Int) = (k : Int) + 1 := by omega
  simp only [e1] at hsl1
  simp only [e2] at hsl2
  have hgd := (ht.d.lt gd rfl).2
  have hgg := (ht.g.lt gg rfl).2
  have hne : ¬ (w.heap.size = gd ∨ w.heap.size = gg) := by omega
  clear HX bX bXY bY HXY HY ht hd hg hc1 hc2 hn hk e1 e2 hgd hgg
  go_enter Tryz.func37, Tryz.ntmps37
  go_wp2_with fail
  refine (unhide HSm).mono ?_
  rintro e W1 ⟨rfl, hb1⟩
  have ht1 := unhide HT W1 hb1
  obtain ⟨m0, m1, m2⟩ := ht1.md
  rw [unhide Hn] at m0 m1
  rw [unhide Hk] at m2
  have XD : Hid (OwX W1 28 2 (.slice (some ⟨gd, 0, none⟩) (n + 1) c1) (n + 1)) := hide (by rw [← unhide Hn]; exact OwX.of ht1.d)
  have XG : Hid (OwX W1 72 3 (.slice (some ⟨gg, 0, none⟩) (k + 1) c2) (k + 1)) := hide (by rw [← unhide Hk]; exact OwX.of ht1.g)
  obtain ⟨r0, r1, r2, r3, r4, r5, r6, r7, r8, r9, r10⟩ := cells_op (unhide HA W1 hb1)
  have rl := (unhide HA W1 hb1).lt
  have HA1 := hide (unhide HA W1 hb1)
  have HB1 := hide (bnext (unhide HB) hb1)
  have G1 : Hid (Kp (fun i => i = gd ∨ i = gg) W1 W1 ∧ SS W1 W1) := hide ⟨Kp.refl _ _, SS.refl _⟩
  clear hb1 ht1 HSm HT HA p0 p1 p2 p3 p4 p5 p6 p7 p8 p9 p10 q0 q1 q2 q3 q4 q5 q6 q7 q8 q9 q10 hX hY
  go_wp2
  go_loopw [8] (fun iv wr => ∃ i : Nat, iv = .int .i64 (i : Nat) ∧ i ≤ n ∧ Hid (Kp (fun i => i = gd ∨ i = gg) W1 wr ∧ SS W1 wr)) (fun iv _ => n - (RowKit.intOf iv).toNat)
  case atStart => exact ⟨0, rfl, by omega, G1⟩
  case round =>
    clear G1
    obtain ⟨i, rfl, hi, G1⟩ := hrel
    by_cases hlt : i < n
    · have hlt' : (i : Int) < (n : Int) := by omega
      obtain ⟨g, hge, l0, fz, cc, _⟩ := ((unhide XD).ss (unhide G1).2).at (by omega)
      simp only [Option.some.injEq, Addr.mk.injEq, and_true] at hge
      subst hge
      obtain ⟨y0, d0⟩ := cc (i * 2) (by omega)
      obtain ⟨y1, d1⟩ := cc (i * 2 + 1) (by omega)
      have f0 := fz (i * 2)
      have f1 := fz (i * 2 + 1)
      have G2 : Hid (Kp (fun i => i = gd ∨ i = gg) W1 ((wr.setCell ⟨gd, i * 2, none⟩ (.int .i64 904)).setCell ⟨gd, i * 2 + 1, none⟩ (.int .i64 (i : Nat))) ∧ SS W1 ((wr.setCell ⟨gd, i * 2, none⟩ (.int .i64 904)).setCell ⟨gd, i * 2 + 1, none⟩ (.int .i64 (i : Nat)))) :=
        hide ⟨((unhide G1).1.trans (Kp.set (N := fun k => k = gd) _ _ _ rfl) (fun i e => .inl (.inl e))).trans (Kp.set (N := fun k => k = gd) _ _ _ rfl) (fun i e => .inl (.inl e)), ((unhide G1).2.trans (SS.set _ _ _ _)).trans (SS.set _ _ _ _)⟩
      have c2 := ((unhide HA1).kp (unhide G1).1 hne).cell 2 _ rfl
      clear G1 fz cc
      go_wp2
      go_roundw
      case rel => exact ⟨i + 1, by go_num, by omega, G2⟩
      case measure => simp [RowKit.intOf]; omega
    · have hlt' : ¬ (i : Int) < (n : Int) := by omega
      go_wp2
      clear hlt' hlt hi
      go_loopw [9] (fun iv wr => ∃ i : Nat, iv = .int .i64 (i : Nat) ∧ i ≤ k ∧ Hid (Kp (fun i => i = gd ∨ i = gg) W1 wr ∧ SS W1 wr)) (fun iv _ => k - (RowKit.intOf iv).toNat)
      case atStart => exact ⟨0, rfl, by omega, G1⟩
      case round =>
        clear G1
        obtain ⟨j, rfl, hj, G1⟩ := hrel
        by_cases hlt : j < k
        · have hlt' : (j : Int) < (k : Int) := by omega
          obtain ⟨g, hge, l0, fz, cc, _⟩ := ((unhide XG).ss (unhide G1).2).at (by omega)
          simp only [Option.some.injEq, Addr.mk.injEq, and_true] at hge
          subst hge
          obtain ⟨y0, d0⟩ := cc (j * 3) (by omega)
          obtain ⟨y1, d1⟩ := cc (j * 3 + 1) (by omega)
          obtain ⟨y2, d2⟩ := cc (j * 3 + 2) (by omega)
          have f0 := fz (j * 3)
          have f1 := fz (j * 3 + 1)
          have f2 := fz (j * 3 + 2)
          have G2 : Hid (Kp (fun i => i = gd ∨ i = gg) W1 (((wr.setCell ⟨gg, j * 3, none⟩ (.int .i64 0)).setCell ⟨gg, j * 3 + 1, none⟩ (.int .i64 0)).setCell ⟨gg, j * 3 + 2, none⟩ (.int .i64 905)) ∧ SS W1 (((wr.setCell ⟨gg, j * 3, none⟩ (.int .i64 0)).setCell ⟨gg, j * 3 + 1, none⟩ (.int .i64 0)).setCell ⟨gg, j * 3 + 2, none⟩ (.int .i64 905))) :=
            hide ⟨(((unhide G1).1.trans (Kp.set (N := fun k => k = gg) _ _ _ rfl) (fun i e => .inl (.inr e))).trans (Kp.set (N := fun k => k = gg) _ _ _ rfl) (fun i e => .inl (.inr e))).trans (Kp.set (N := fun k => k = gg) _ _ _ rfl) (fun i e => .inl (.inr e)), (((unhide G1).2.trans (SS.set _ _ _ _)).trans (SS.set _ _ _ _)).trans (SS.set _ _ _ _)⟩
          have c9 := ((unhide HA1).kp (unhide G1).1 hne).cell 9 _ rfl
          clear G1 fz cc
          go_wp2
          go_roundw
          case rel => exact ⟨j + 1, by go_num, by omega, G2⟩
          case measure => simp [RowKit.intOf]; omega
        · have hlt' : ¬ (j : Int) < (k : Int) := by omega
          go_wp2
          go_ret
          exact ⟨rfl, (Kp.of_below (unhide HB1)).trans (unhide G1).1 (fun i e => .inl e)⟩

end Go.Proofs.YtkkolefionbbcaaGreat
