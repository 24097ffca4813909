/-
  The law's twin of an operation, and its spoil.
-/
import Derived.Test.YtijjoikeceechaaGreatZXLR4
import Derived.Deep.CutRange
import Derived.Test.YtijjoikeceechaaGreatZQW
import Derived.Deep.RegionHeld3

set_option linter.unusedSimpArgs false
set_option linter.unusedVariables false
namespace Go.Proofs.YtijjoikeceechaaGreat
open Go.RowKit Go.Lib

theorem append_run (w : World) (ty : TypeId) (N : Nat) (v : Value) (l : List ((Int × Int) × Int)) (x y z : Int) (nb : Nat) (h : OwR w N v l) (hbx : Bx w nb 81 #[.int .i64 x, .int .i64 y, .int .i64 z]) (hN : N ≤ w.heap.size) (hl : l.length ≤ 1000000) :
    ∃ v' w', (Builtin.append_ #[43, 43] ty #[v, .slice (some ⟨nb, 0, none⟩) 1 1]).run Tryz.prog w = .ok v' w' ∧ OwR w' N v' (l ++ [((x, y), z)]) ∧ w.grownBy w' v.ownBlock := by
  obtain ⟨i0, hi, hz0, hz1, hz2⟩ := info_parts infoRu
  obtain ⟨v', w', h1, h2, h3, h4, h5⟩ := run_append_own_at (P := Tryz.prog) w N 43 ty 81 i0 _ 3 24 Tryz.underlying43 hi hz0 hz1 hz2 rfl (by decide) v l.length _ h ⟨nb, 0, none⟩ 1 1 [.int .i64 x, .int .i64 y, .int .i64 z] rfl (fun j u hu => by
    rw [Addr.add_lit, Nat.zero_add]
    exact hbx.cell j u (by rw [← hu]; simp)) (fun u hu => by simp at hu; rcases hu with rfl | rfl | rfl <;> rfl) (by unfold maxLen; omega) (by omega) (by first | omega | (simp; omega))
  refine ⟨v', w', h1, ?_, h3⟩
  unfold OwR
  rw [flat_append]
  simpa [show flat encR [((x, y), z)] = [.int .i64 x, .int .i64 y, .int .i64 z] from rfl] using h2

theorem sl_toVt (w : World) (a : Option Addr) (n c k : Nat) (hk : k ≤ c) :
    (Instr.sliceAt 23 (.slice a n c) none (some (.int .i64 (k : Nat))) none).run Tryz.prog w = .ok (.slice a k c) w := by
  obtain ⟨i0, hi, hz0, hz1, hz2⟩ := info_parts infoD
  have h1 : (k : Int) ≤ (c : Int) := by omega
  simp [Instr.sliceAt, Instr.slice, run_underlying Tryz.underlying23, sizeOf, typeInfo, hi, hz1, go_sem, h1, hk]
theorem sl_toRt (w : World) (a : Option Addr) (n c k : Nat) (hk : k ≤ c) :
    (Instr.sliceAt 43 (.slice a n c) none (some (.int .i64 (k : Nat))) none).run Tryz.prog w = .ok (.slice a k c) w := by
  obtain ⟨i0, hi, hz0, hz1, hz2⟩ := info_parts infoRu
  have h1 : (k : Int) ≤ (c : Int) := by omega
  simp [Instr.sliceAt, Instr.slice, run_underlying Tryz.underlying43, sizeOf, typeInfo, hi, hz1, go_sem, h1, hk]

/-- an operation's lists in rows of their own, a mark behind each -/
structure Tw (W : World) (B : Nat) (deps : List (Int × Int)) (gone : List ((Int × Int) × Int)) (gd cd gg cg : Nat) : Prop where
  d : W.ownsRow B 28 2 (.slice (some ⟨gd, 0, none⟩) (deps.length + 1) cd) (deps.length + 1) (flat encI (deps ++ [(77, 77)]))
  g : W.ownsRow B 81 3 (.slice (some ⟨gg, 0, none⟩) (gone.length + 1) cg) (gone.length + 1) (flat encR (gone ++ [((0, 0), 77)]))
theorem Tw.below {W W' : World} {B : Nat} {deps : List (Int × Int)} {gone : List ((Int × Int) × Int)} {gd cd gg cg : Nat} (h : Tw W B deps gone gd cd gg cg) (hb : Below W.heap.size W W') : Tw W' B deps gone gd cd gg cg :=
  ⟨owns_kp h.d (Kp.of_below (N := fun _ => False) hb) (fun _ _ e => e), owns_kp h.g (Kp.of_below (N := fun _ => False) hb) (fun _ _ e => e)⟩
theorem RC.take1 {W : World} {a : Option Addr} {n c : Nat} {C D : List Value} (h : RC W (.slice a (n + 1) c) (n + 1) C) (hD : ∀ (j : Nat) (x : Value), D[j]? = some x → C[j]? = some x) : RC W (.slice a n c) n D := by
  rcases h with ⟨h0, _⟩ | ⟨b, off, cap, e, h1, h2, h3⟩
  · omega
  · simp at e
    obtain ⟨rfl, rfl⟩ := e
    exact .inr ⟨b, off, c, rfl, by omega, h2, fun j x hx => h3 j x (hD j x hx)⟩
theorem Tw.ri {W : World} {B : Nat} {deps : List (Int × Int)} {gone : List ((Int × Int) × Int)} {gd cd gg cg : Nat} (h : Tw W B deps gone gd cd gg cg) : RI W (.slice (some ⟨gd, 0, none⟩) deps.length cd) deps :=
  RC.take1 (RC.of_owns h.d) (fun j x hx => by rw [flat_append]; exact (List.getElem?_append_left (List.getElem?_eq_some_iff.1 hx).1).trans hx)
theorem Tw.rr {W : World} {B : Nat} {deps : List (Int × Int)} {gone : List ((Int × Int) × Int)} {gd cd gg cg : Nat} (h : Tw W B deps gone gd cd gg cg) : RR W (.slice (some ⟨gg, 0, none⟩) gone.length cg) gone :=
  RC.take1 (RC.of_owns h.g) (fun j x hx => by rw [flat_append]; exact (List.getElem?_append_left (List.getElem?_eq_some_iff.1 hx).1).trans hx)
theorem own_cap {W : World} {B E k n : Nat} {a : Option Addr} {c : Nat} {C : List Value} (h : W.ownsRow B E k (.slice a (n + 1) c) (n + 1) C) : ∃ g, a = some ⟨g, 0, none⟩ ∧ n + 1 ≤ c := by
  obtain ⟨_, (⟨_, h0⟩ | ⟨g, cap, cur, e, _, _, h1, _⟩)⟩ := h
  · omega
  · simp at e
    obtain ⟨rfl, rfl⟩ := e
    exact ⟨g, rfl, h1⟩

theorem owns_wk {W : World} {B B' E k n : Nat} {v : Value} {C : List Value} (h : W.ownsRow B E k v n C) (hb : B' ≤ B) : W.ownsRow B' E k v n C := by
  obtain ⟨h1, h2⟩ := h
  refine ⟨h1, ?_⟩
  rcases h2 with h2 | ⟨g, cap, cur, e, hbg, hg, hc1, hc2, hc3, hc4⟩
  · exact .inl h2
  · exact .inr ⟨g, cap, cur, e, Nat.le_trans hb hbg, hg, hc1, hc2, hc3, hc4⟩
set_option maxRecDepth 100000 in
set_option maxHeartbeats 8000000 in
theorem twin_in (o : Opn) (ad ag : Option Addr) (cd cg : Nat) (w : World) (hd : RI w (.slice ad o.deps.length cd) o.deps) (hg : RR w (.slice ag o.gone.length cg) o.gone) (hs1 : o.deps.length ≤ 100000) (hs2 : o.gone.length ≤ 100000) :
    Calls Tryz.prog 30 #[.agg #[.int .i64 o.ds, .int .i64 o.dq, .slice ad o.deps.length cd, .int .i64 o.kind, .int .i64 o.it, .int .i64 o.is, .int .i64 o.rt, .int .i64 o.rs, .string o.text, .slice ag o.gone.length cg, .int .i64 o.site]] w fun e W => ∃ gd c1 gg c2, e = .returned (.agg #[.int .i64 o.ds, .int .i64 o.dq, .slice (some ⟨gd, 0, none⟩) o.deps.length c1, .int .i64 o.kind, .int .i64 o.it, .int .i64 o.is, .int .i64 o.rt, .int .i64 o.rs, .string o.text, .slice (some ⟨gg, 0, none⟩) o.gone.length c2, .int .i64 o.site]) ∧ Tw W w.heap.size o.deps o.gone gd c1 gg c2 ∧ Below w.heap.size w W := by
  obtain ⟨X, hX⟩ : ∃ X, w.alloc (.cells #[.int .i64 o.ds, .int .i64 o.dq, .slice ad o.deps.length cd, .int .i64 o.kind, .int .i64 o.it, .int .i64 o.is, .int .i64 o.rt, .int .i64 o.rs, .string o.text, .slice ag o.gone.length cg, .int .i64 o.site] 45) = X := ⟨_, rfl⟩
  have HX : Bx X w.heap.size 45 #[.int .i64 o.ds, .int .i64 o.dq, .slice ad o.deps.length cd, .int .i64 o.kind, .int .i64 o.it, .int .i64 o.is, .int .i64 o.rt, .int .i64 o.rs, .string o.text, .slice ag o.gone.length cg, .int .i64 o.site] := by rw [← hX]; exact Bx.new w _ _
  have bX : Below w.heap.size w X := by rw [← hX]; exact ballc (Below.refl _ _) _
  obtain ⟨Y, hY⟩ : ∃ Y, X.alloc (.cells #[.int .i64 0, .int .i64 0, .slice none 0 0, .int .i64 0, .int .i64 0, .int .i64 0, .int .i64 0, .int .i64 0, .string ⟨#[]⟩, .slice none 0 0, .int .i64 0] 45) = Y := ⟨_, rfl⟩
  have HY : Bx Y X.heap.size 45 #[.int .i64 0, .int .i64 0, .slice none 0 0, .int .i64 0, .int .i64 0, .int .i64 0, .int .i64 0, .int .i64 0, .string ⟨#[]⟩, .slice none 0 0, .int .i64 0] := by rw [← hY]; exact Bx.new X _ _
  have bXY : Below X.heap.size X Y := by rw [← hY]; exact ballc (Below.refl _ _) _
  have bY := bnext bX bXY
  have HXY := HX.below bXY
  have hxs : X.heap.size = w.heap.size + 1 := by rw [← hX]; simp
  rw [hxs] at HY
  -- the lists
  obtain ⟨v1, W1, hap1, ho1, hg1⟩ := app_nil 23 28 2 16 _ Tryz.underlying23 infoD rfl (by decide) Y Y.heap.size 23 _ o.deps.length (flat encI o.deps) (hd.below bY) (flat_len encI_len o.deps) encI_oneT (Nat.le_refl _) (by unfold maxLen; omega) (by omega)
  have b1 : Below Y.heap.size Y W1 := (Below.refl _ Y).grown hg1 (Nat.le_refl _) (fun k hk => by cases hk)
  obtain ⟨v2, W2, hap2, ho2, hg2, -⟩ := append_dot W1 23 Y.heap.size v1 o.deps 77 77 ho1 b1.size (by omega)
  have b2 : Below Y.heap.size Y W2 := (ballc b1 _).grown hg2 (ballc b1 _).size (fun k hk => (ho1.lt k hk).1)
  obtain ⟨v3, W3, hap3, ho3, hg3⟩ := app_nil 43 81 3 24 _ Tryz.underlying43 infoRu rfl (by decide) W2 W2.heap.size 43 _ o.gone.length (flat encR o.gone) (RC.below (RC.below hg bY) b2) (flat_len encR_len o.gone) encR_oneT (Nat.le_refl _) (by unfold maxLen; omega) (by omega)
  have b23 : Below W2.heap.size W2 W3 := (Below.refl _ W2).grown hg3 (Nat.le_refl _) (fun k hk => by cases hk)
  have b3 : Below Y.heap.size Y W3 := bnext b2 b23
  obtain ⟨V, hV⟩ : ∃ V, W3.alloc (.cells #[.int .i64 0, .int .i64 0, .int .i64 77] 81) = V := ⟨_, rfl⟩
  have bV : Below W3.heap.size W3 V := by rw [← hV]; exact ballc (Below.refl _ _) _
  have xV : Bx V W3.heap.size 81 #[.int .i64 0, .int .i64 0, .int .i64 77] := by rw [← hV]; exact Bx.new W3 _ _
  obtain ⟨v4, W4, hap4, ho4, hg4⟩ := append_run V 43 W2.heap.size v3 o.gone 0 0 77 W3.heap.size (show OwR V W2.heap.size v3 o.gone from owns_kp ho3 (Kp.of_below (N := fun _ => False) bV) (fun _ _ e => e)) xV (by have := b23.size; have := bV.size; omega) (by omega)
  have b24 : Below W2.heap.size W2 W4 := (bnext b23 bV).grown hg4 (bnext b23 bV).size (fun k hk => (ho3.lt k hk).1)
  have b4 : Below Y.heap.size Y W4 := bnext b2 b24
  have o2 := owns_kp ho2 (Kp.of_below (N := fun _ => False) b24) (fun _ _ e => e)
  have l2 : (o.deps ++ [((77 : Int), (77 : Int))]).length = o.deps.length + 1 := by simp
  have l4 : (o.gone ++ [(((0 : Int), (0 : Int)), (77 : Int))]).length = o.gone.length + 1 := by simp
  have o4 : W4.ownsRow W2.heap.size 81 3 v4 (o.gone ++ [((0, 0), 77)]).length (flat encR (o.gone ++ [((0, 0), 77)])) := ho4
  rw [l2] at o2
  rw [l4] at o4
  obtain ⟨a2, c1, rfl⟩ := owns_form o2
  obtain ⟨a4, c2, rfl⟩ := owns_form o4
  obtain ⟨gd, rfl, hc1⟩ := own_cap o2
  obtain ⟨gg, rfl, hc2⟩ := own_cap o4
  have hgd := (o2.lt gd rfl).1
  have hgg := (o4.lt gg rfl).1
  have ys := b2.size
  have hsl1 := fun W n => sl_toVt W (some ⟨gd, 0, none⟩) n c1 o.deps.length (by omega)
  have hsl2 := fun W n => sl_toRt W (some ⟨gg, 0, none⟩) n c2 o.gone.length (by omega)
  -- the boxes behind them
  have x2 := HXY.below b2
  have x4 := HXY.below b4
  have y4 := HY.below b4
  obtain ⟨Z1, hZ1⟩ : ∃ Z, W4.setCell ⟨w.heap.size, 2, none⟩ (.slice (some ⟨gd, 0, none⟩) o.deps.length c1) = Z := ⟨_, rfl⟩
  have z1 : Bx Z1 w.heap.size 45 #[.int .i64 o.ds, .int .i64 o.dq, .slice (some ⟨gd, 0, none⟩) o.deps.length c1, .int .i64 o.kind, .int .i64 o.it, .int .i64 o.is, .int .i64 o.rt, .int .i64 o.rs, .string o.text, .slice ag o.gone.length cg, .int .i64 o.site] := by rw [← hZ1]; simpa using x4.set 2 (.slice (some ⟨gd, 0, none⟩) o.deps.length c1)
  obtain ⟨Z2, hZ2⟩ : ∃ Z, Z1.setCell ⟨w.heap.size, 9, none⟩ (.slice (some ⟨gg, 0, none⟩) o.gone.length c2) = Z := ⟨_, rfl⟩
  have z2 : Bx Z2 w.heap.size 45 #[.int .i64 o.ds, .int .i64 o.dq, .slice (some ⟨gd, 0, none⟩) o.deps.length c1, .int .i64 o.kind, .int .i64 o.it, .int .i64 o.is, .int .i64 o.rt, .int .i64 o.rs, .string o.text, .slice (some ⟨gg, 0, none⟩) o.gone.length c2, .int .i64 o.site] := by rw [← hZ2]; simpa using z1.set 9 (.slice (some ⟨gg, 0, none⟩) o.gone.length c2)
  have kp2 : Kp (fun k => k = w.heap.size) W4 Z2 := by rw [← hZ2, ← hZ1]; exact (Kp.set (N := fun k => k = w.heap.size) W4 ⟨w.heap.size, 2, none⟩ _ rfl).trans (Kp.set (N := fun k => k = w.heap.size) _ ⟨w.heap.size, 9, none⟩ _ rfl) (fun i h => .inl h)
  have yz : Bx Z2 (w.heap.size + 1) 45 #[.int .i64 0, .int .i64 0, .slice none 0 0, .int .i64 0, .int .i64 0, .int .i64 0, .int .i64 0, .int .i64 0, .string ⟨#[]⟩, .slice none 0 0, .int .i64 0] := y4.kp kp2 (by omega)
  have y3 := Bx.set11 (x0 := .int .i64 o.ds) (x1 := .int .i64 o.dq) (x2 := .slice (some ⟨gd, 0, none⟩) o.deps.length c1) (x3 := .int .i64 o.kind) (x4 := .int .i64 o.it) (x5 := .int .i64 o.is) (x6 := .int .i64 o.rt) (x7 := .int .i64 o.rs) (x8 := .string o.text) (x9 := .slice (some ⟨gg, 0, none⟩) o.gone.length c2) (x10 := .int .i64 o.site) yz
  have kp3 := Kp.set11 Z2 (w.heap.size + 1) (.int .i64 o.ds) (.int .i64 o.dq) (.slice (some ⟨gd, 0, none⟩) o.deps.length c1) (.int .i64 o.kind) (.int .i64 o.it) (.int .i64 o.is) (.int .i64 o.rt) (.int .i64 o.rs) (.string o.text) (.slice (some ⟨gg, 0, none⟩) o.gone.length c2) (.int .i64 o.site)
  generalize hZ3 : (((((((((((Z2.setCell ⟨w.heap.size + 1, 0, none⟩ (.int .i64 o.ds)).setCell ⟨w.heap.size + 1, 1, none⟩ (.int .i64 o.dq)).setCell ⟨w.heap.size + 1, 2, none⟩ (.slice (some ⟨gd, 0, none⟩) o.deps.length c1)).setCell ⟨w.heap.size + 1, 3, none⟩ (.int .i64 o.kind)).setCell ⟨w.heap.size + 1, 4, none⟩ (.int .i64 o.it)).setCell ⟨w.heap.size + 1, 5, none⟩ (.int .i64 o.is)).setCell ⟨w.heap.size + 1, 6, none⟩ (.int .i64 o.rt)).setCell ⟨w.heap.size + 1, 7, none⟩ (.int .i64 o.rs)).setCell ⟨w.heap.size + 1, 8, none⟩ (.string o.text)).setCell ⟨w.heap.size + 1, 9, none⟩ (.slice (some ⟨gg, 0, none⟩) o.gone.length c2)).setCell ⟨w.heap.size + 1, 10, none⟩ (.int .i64 o.site)) = Z3 at y3 kp3
  have hw4 : Below w.heap.size w Z3 := kp3.below (kp2.below (bnext bY b4) (fun i e => by omega)) (fun i e => by omega)
  have hYs : w.heap.size + 1 < Y.heap.size := by have := HY.lt; omega
  have htw : Tw Z3 w.heap.size o.deps o.gone gd c1 gg c2 := by
    have h1 := owns_kp (owns_kp o2 kp2 (fun i hi e => by have := (o2.lt i hi).1; omega)) kp3 (fun i hi e => by have := (o2.lt i hi).1; omega)
    have h2 := owns_kp (owns_kp o4 kp2 (fun i hi e => by have := (o4.lt i hi).1; omega)) kp3 (fun i hi e => by have := (o4.lt i hi).1; omega)
    exact ⟨owns_wk h1 (by omega), owns_wk h2 (by omega)⟩
  have HW := hide hw4
  have HT := hide htw
  have Hy3 := hide y3
  obtain ⟨p0, p1, p2, p3, p4, p5, p6, p7, p8, p9, p10⟩ := cells_op HXY
  obtain ⟨q0, q1, q2, q3, q4, q5, q6, q7, q8, q9, q10⟩ := cells_op x2
  obtain ⟨r0, r1, r2, r3, r4, r5, r6, r7, r8, r9, r10⟩ := cells_op x4
  have rf2 := x4.frozen 2
  obtain ⟨s0, s1, s2, s3, s4, s5, s6, s7, s8, s9, s10⟩ := cells_op z1
  have sf9 := z1.frozen 9
  obtain ⟨t0, t1, t2, t3, t4, t5, t6, t7, t8, t9, t10⟩ := cells_op z2
  obtain ⟨u0, u1, u2, u3, u4, u5, u6, u7, u8, u9, u10⟩ := cells_op yz
  have uf0 := yz.frozen 0
  have uf1 := yz.frozen 1
  have uf2 := yz.frozen 2
  have uf3 := yz.frozen 3
  have uf4 := yz.frozen 4
  have uf5 := yz.frozen 5
  have uf6 := yz.frozen 6
  have uf7 := yz.frozen 7
  have uf8 := yz.frozen 8
  have uf9 := yz.frozen 9
  have uf10 := yz.frozen 10
  replace hap1 := hide hap1
  replace hap2 := hide hap2
  replace hap3 := hide hap3
  replace hap4 := hide hap4
  clear HX bX HY bXY bY HXY ho1 hg1 b1 ho2 hg2 b2 ho3 hg3 b23 b3 bV xV ho4 hg4 b24 b4 o2 o4 l2 l4 hc1 hc2 hgd hgg ys x2 x4 y4 z1 z2 kp2 yz y3 kp3 hw4 hYs htw hd hg
  go_enter Tryz.func30, Tryz.ntmps30
  go_wp2_with (at_builtin; first | (have H1 := hap1; clear hap1; refine wpList_append_eq rfl _ _ 23 rfl _ _ _ _ rfl rfl (unhide H1) ?_; clear H1) | (have H2 := hap2; clear hap2; refine wpList_append_eq rfl _ _ 23 rfl _ _ _ _ rfl rfl (unhide H2) ?_; clear H2) | (have H3 := hap3; clear hap3; refine wpList_append_eq rfl _ _ 43 rfl _ _ _ _ rfl rfl (unhide H3) ?_; clear H3) | (have H4 := hap4; clear hap4; refine wpList_append_eq rfl _ _ 43 rfl _ _ _ _ rfl rfl (unhide H4) ?_; clear H4))
  refine bodyPost_ret (results_cell_row rfl _ _ (w.heap.size + 1) _ _ _ _ rfl (unhide Hy3) Tryz.underlying45 rfl sizeOp) rfl ?_
  exact ⟨gd, c1, gg, c2, rfl, unhide HT, unhide HW⟩

theorem Tw.capd {W : World} {B : Nat} {deps : List (Int × Int)} {gone : List ((Int × Int) × Int)} {gd cd gg cg : Nat} (h : Tw W B deps gone gd cd gg cg) : deps.length + 1 ≤ cd ∧ gone.length + 1 ≤ cg := by
  obtain ⟨_, _, h1⟩ := own_cap h.d
  obtain ⟨_, _, h2⟩ := own_cap h.g
  exact ⟨h1, h2⟩
theorem Tw.md {W : World} {B : Nat} {deps : List (Int × Int)} {gone : List ((Int × Int) × Int)} {gd cd gg cg : Nat} (h : Tw W B deps gone gd cd gg cg) : W.cell? ⟨gd, deps.length * 2, none⟩ = some (.int .i64 77) ∧ W.cell? ⟨gd, deps.length * 2 + 1, none⟩ = some (.int .i64 77) ∧ W.cell? ⟨gg, gone.length * 3 + 2, none⟩ = some (.int .i64 77) := by
  have hx : (deps ++ [((77 : Int), (77 : Int))])[deps.length]? = some (77, 77) := by simp
  have hy : (gone ++ [(((0 : Int), (0 : Int)), (77 : Int))])[gone.length]? = some ((0, 0), 77) := by simp
  have h0 := h.d.cellAt (deps.length * 2) (by omega)
  have h1 := h.d.cellAt (deps.length * 2 + 1) (by omega)
  have h2 := h.g.cellAt (gone.length * 3 + 2) (by omega)
  rw [show deps.length * 2 = deps.length * 2 + 0 from rfl, flat_get encI_len _ deps.length 0 _ hx (by omega)] at h0
  rw [flat_get encI_len _ deps.length 1 _ hx (by omega)] at h1
  rw [flat_get encR_len _ gone.length 2 _ hy (by omega)] at h2
  exact ⟨h0, h1, h2⟩

set_option maxRecDepth 100000 in
set_option maxHeartbeats 8000000 in
theorem spoil_in (o : Opn) (ad ag : Option Addr) (cd cg : Nat) (B gd c1 gg c2 : Nat) (w : World) (ht : Tw w B o.deps o.gone gd c1 gg c2) (hd : RI w (.slice ad o.deps.length cd) o.deps) (hg : RR w (.slice ag o.gone.length cg) o.gone) (hs1 : o.deps.length ≤ 100000) (hs2 : o.gone.length ≤ 100000) :
    Calls Tryz.prog 32 #[.agg #[.int .i64 o.ds, .int .i64 o.dq, .slice (some ⟨gd, 0, none⟩) o.deps.length c1, .int .i64 o.kind, .int .i64 o.it, .int .i64 o.is, .int .i64 o.rt, .int .i64 o.rs, .string o.text, .slice (some ⟨gg, 0, none⟩) o.gone.length c2, .int .i64 o.site], .agg #[.int .i64 o.ds, .int .i64 o.dq, .slice ad o.deps.length cd, .int .i64 o.kind, .int .i64 o.it, .int .i64 o.is, .int .i64 o.rt, .int .i64 o.rs, .string o.text, .slice ag o.gone.length cg, .int .i64 o.site]] w fun e W => e = .returned (.bool true) ∧ Kp (fun i => i = gd ∨ i = gg) w W := by
  obtain ⟨X, hX⟩ : ∃ X, w.alloc (.cells #[.int .i64 o.ds, .int .i64 o.dq, .slice (some ⟨gd, 0, none⟩) o.deps.length c1, .int .i64 o.kind, .int .i64 o.it, .int .i64 o.is, .int .i64 o.rt, .int .i64 o.rs, .string o.text, .slice (some ⟨gg, 0, none⟩) o.gone.length c2, .int .i64 o.site] 45) = X := ⟨_, rfl⟩
  have HX : Bx X w.heap.size 45 #[.int .i64 o.ds, .int .i64 o.dq, .slice (some ⟨gd, 0, none⟩) o.deps.length c1, .int .i64 o.kind, .int .i64 o.it, .int .i64 o.is, .int .i64 o.rt, .int .i64 o.rs, .string o.text, .slice (some ⟨gg, 0, none⟩) o.gone.length c2, .int .i64 o.site] := by rw [← hX]; exact Bx.new w _ _
  have bX : Below w.heap.size w X := by rw [← hX]; exact ballc (Below.refl _ _) _
  obtain ⟨Y, hY⟩ : ∃ Y, X.alloc (.cells #[.int .i64 o.ds, .int .i64 o.dq, .slice ad o.deps.length cd, .int .i64 o.kind, .int .i64 o.it, .int .i64 o.is, .int .i64 o.rt, .int .i64 o.rs, .string o.text, .slice ag o.gone.length cg, .int .i64 o.site] 45) = Y := ⟨_, rfl⟩
  have HY : Bx Y X.heap.size 45 #[.int .i64 o.ds, .int .i64 o.dq, .slice ad o.deps.length cd, .int .i64 o.kind, .int .i64 o.it, .int .i64 o.is, .int .i64 o.rt, .int .i64 o.rs, .string o.text, .slice ag o.gone.length cg, .int .i64 o.site] := by rw [← hY]; exact Bx.new X _ _
  have bXY : Below X.heap.size X Y := by rw [← hY]; exact ballc (Below.refl _ _) _
  have bY := bnext bX bXY
  have HXY := HX.below bXY
  have HSm := hide (lsame_in o _ _ _ _ Y (ht.below bY).ri (ht.below bY).rr (hd.below bY) (RC.below hg bY) (by omega) (by omega))
  unfold opA at HSm
  have HT := hide (fun (W : World) (h : Below Y.heap.size Y W) => (ht.below bY).below h)
  have HA := hide (fun (W : World) (h : Below Y.heap.size Y W) => HXY.below h)
  obtain ⟨hc1, hc2⟩ := ht.capd
  have hsl1 := fun W n => sl_toVt W (some ⟨gd, 0, none⟩) n c1 (o.deps.length + 1) hc1
  have hsl2 := fun W n => sl_toRt W (some ⟨gg, 0, none⟩) n c2 (o.gone.length + 1) hc2
  obtain ⟨p0, p1, p2, p3, p4, p5, p6, p7, p8, p9, p10⟩ := cells_op HXY
  obtain ⟨q0, q1, q2, q3, q4, q5, q6, q7, q8, q9, q10⟩ := cells_op HY
  obtain ⟨n, hn⟩ : ∃ n, o.deps.length = n := ⟨_, rfl⟩
  obtain ⟨k, hk⟩ : ∃ k, o.gone.length = k := ⟨_, rfl⟩
  have HB := hide bY
  have Hn := hide hn
  have Hk := hide hk
  rw [hn] at hs1 hsl1 p2 q2 HSm HA hX hY ⊢
  rw [hk] at hs2 hsl2 p9 q9 HSm HA hX hY ⊢
  have e1 : ((n + 1 : Nat) : Int) = (n : Int) + 1 := by omega
  have e2 : ((k + 1 : Nat) : Int) = (k : Int) + 1 := by omega
  simp only [e1] at hsl1
  simp only [e2] at hsl2
  clear HX bX bXY bY HXY HY ht hd hg hc1 hc2 hn hk e1 e2
  go_enter Tryz.func32, Tryz.ntmps32
  go_wp2_with fail
  refine (unhide HSm).mono ?_
  rintro e W1 ⟨rfl, hb1⟩
  have ht1 := unhide HT W1 hb1
  obtain ⟨m0, m1, m2⟩ := ht1.md
  rw [unhide Hn] at m0 m1
  rw [unhide Hk] at m2
  have XD : Hid (OwX W1 28 2 (.slice (some ⟨gd, 0, none⟩) (n + 1) c1) (n + 1)) := hide (by rw [← unhide Hn]; exact OwX.of ht1.d)
  have XG : Hid (OwX W1 81 3 (.slice (some ⟨gg, 0, none⟩) (k + 1) c2) (k + 1)) := hide (by rw [← unhide Hk]; exact OwX.of ht1.g)
  obtain ⟨r0, r1, r2, r3, r4, r5, r6, r7, r8, r9, r10⟩ := cells_op (unhide HA W1 hb1)
  have rl := (unhide HA W1 hb1).lt
  have HB1 := hide (bnext (unhide HB) hb1)
  have G1 : Hid (Kp (fun i => i = gd ∨ i = gg) W1 W1 ∧ SS W1 W1) := hide ⟨Kp.refl _ _, SS.refl _⟩
  clear hb1 ht1 HSm HT HA p0 p1 p2 p3 p4 p5 p6 p7 p8 p9 p10 q0 q1 q2 q3 q4 q5 q6 q7 q8 q9 q10 hX hY
  go_wp2
  go_loopw [10] (fun iv wr => ∃ i : Nat, iv = .int .i64 (i : Nat) ∧ i ≤ n + 1 ∧ Hid (Kp (fun i => i = gd ∨ i = gg) W1 wr ∧ SS W1 wr)) (fun iv _ => n + 1 - (RowKit.intOf iv).toNat)
  case atStart => exact ⟨0, rfl, by omega, G1⟩
  case round =>
    clear G1
    obtain ⟨i, rfl, hi, G1⟩ := hrel
    by_cases hlt : i < n + 1
    · have hlt' : (i : Int) < (n : Int) + 1 := by omega
      obtain ⟨g, hge, l0, fz, cc, _⟩ := ((unhide XD).ss (unhide G1).2).at (by omega)
      simp only [Option.some.injEq, Addr.mk.injEq, and_true] at hge
      subst hge
      obtain ⟨y0, d0⟩ := cc (i * 2) (by omega)
      obtain ⟨y1, d1⟩ := cc (i * 2 + 1) (by omega)
      have f0 := fz (i * 2)
      have f1 := fz (i * 2 + 1)
      have G2 : Hid (Kp (fun i => i = gd ∨ i = gg) W1 ((wr.setCell ⟨gd, i * 2, none⟩ (.int .i64 5)).setCell ⟨gd, i * 2 + 1, none⟩ (.int .i64 55)) ∧ SS W1 ((wr.setCell ⟨gd, i * 2, none⟩ (.int .i64 5)).setCell ⟨gd, i * 2 + 1, none⟩ (.int .i64 55))) :=
        hide ⟨((unhide G1).1.trans (Kp.set (N := fun k => k = gd) _ _ _ rfl) (fun i e => .inl (.inl e))).trans (Kp.set (N := fun k => k = gd) _ _ _ rfl) (fun i e => .inl (.inl e)), ((unhide G1).2.trans (SS.set _ _ _ _)).trans (SS.set _ _ _ _)⟩
      clear G1 fz cc
      go_wp2
      go_roundw
      case rel => exact ⟨i + 1, by go_num, by omega, G2⟩
      case measure => simp [RowKit.intOf]; omega
    · have hlt' : ¬ (i : Int) < (n : Int) + 1 := by omega
      go_wp2
      clear hlt' hlt hi
      go_loopw [11] (fun iv wr => ∃ i : Nat, iv = .int .i64 (i : Nat) ∧ i ≤ k + 1 ∧ Hid (Kp (fun i => i = gd ∨ i = gg) W1 wr ∧ SS W1 wr)) (fun iv _ => k + 1 - (RowKit.intOf iv).toNat)
      case atStart => exact ⟨0, rfl, by omega, G1⟩
      case round =>
        clear G1
        obtain ⟨j, rfl, hj, G1⟩ := hrel
        by_cases hlt : j < k + 1
        · have hlt' : (j : Int) < (k : Int) + 1 := by omega
          obtain ⟨g, hge, l0, fz, cc, _⟩ := ((unhide XG).ss (unhide G1).2).at (by omega)
          simp only [Option.some.injEq, Addr.mk.injEq, and_true] at hge
          subst hge
          obtain ⟨y0, d0⟩ := cc (j * 3) (by omega)
          obtain ⟨y1, d1⟩ := cc (j * 3 + 1) (by omega)
          obtain ⟨y2, d2⟩ := cc (j * 3 + 2) (by omega)
          have f0 := fz (j * 3)
          have f1 := fz (j * 3 + 1)
          have f2 := fz (j * 3 + 2)
          have G2 : Hid (Kp (fun i => i = gd ∨ i = gg) W1 (((wr.setCell ⟨gg, j * 3, none⟩ (.int .i64 0)).setCell ⟨gg, j * 3 + 1, none⟩ (.int .i64 0)).setCell ⟨gg, j * 3 + 2, none⟩ (.int .i64 66)) ∧ SS W1 (((wr.setCell ⟨gg, j * 3, none⟩ (.int .i64 0)).setCell ⟨gg, j * 3 + 1, none⟩ (.int .i64 0)).setCell ⟨gg, j * 3 + 2, none⟩ (.int .i64 66))) :=
            hide ⟨(((unhide G1).1.trans (Kp.set (N := fun k => k = gg) _ _ _ rfl) (fun i e => .inl (.inr e))).trans (Kp.set (N := fun k => k = gg) _ _ _ rfl) (fun i e => .inl (.inr e))).trans (Kp.set (N := fun k => k = gg) _ _ _ rfl) (fun i e => .inl (.inr e)), (((unhide G1).2.trans (SS.set _ _ _ _)).trans (SS.set _ _ _ _)).trans (SS.set _ _ _ _)⟩
          clear G1 fz cc
          go_wp2
          go_roundw
          case rel => exact ⟨j + 1, by go_num, by omega, G2⟩
          case measure => simp [RowKit.intOf]; omega
        · have hlt' : ¬ (j : Int) < (k : Int) + 1 := by omega
          go_wp2
          go_ret
          exact ⟨rfl, (Kp.of_below (unhide HB1)).trans (unhide G1).1 (fun i e => .inl e)⟩

end Go.Proofs.YtijjoikeceechaaGreat

/-
  The law's step: what it has in memory.
-/
set_option linter.unusedSimpArgs false
set_option linter.unusedVariables false
namespace Go.Proofs.YtijjoikeceechaaGreat
open Go.RowKit Go.Lib

/-- a list in a row of its own, a mark behind it -/
def Mk (W : World) (N : Nat) (l : List (Int × Int)) (g c : Nat) : Prop := W.ownsRow N 28 2 (.slice (some ⟨g, 0, none⟩) (l.length + 1) c) (l.length + 1) (flat encI (l ++ [(77, 77)]))
theorem Mk.kp {N : Nat → Prop} {W W' : World} {B : Nat} {l : List (Int × Int)} {g c : Nat} (h : Mk W B l g c) (k : Kp N W W') (hn : ¬ N g) : Mk W' B l g c := owns_kp h k (fun i hi e => by simp [Value.ownBlock] at hi; subst hi; exact hn e)
theorem Mk.ri {W : World} {B : Nat} {l : List (Int × Int)} {g c : Nat} (h : Mk W B l g c) : RI W (.slice (some ⟨g, 0, none⟩) l.length c) l :=
  RC.take1 (RC.of_owns h) (fun j x hx => by rw [flat_append]; exact (List.getElem?_append_left (List.getElem?_eq_some_iff.1 hx).1).trans hx)
theorem Mk.cap {W : World} {B : Nat} {l : List (Int × Int)} {g c : Nat} (h : Mk W B l g c) : l.length + 1 ≤ c := by
  obtain ⟨_, _, h1⟩ := own_cap h
  exact h1
theorem Mk.lo {W : World} {B : Nat} {l : List (Int × Int)} {g c : Nat} (h : Mk W B l g c) : B ≤ g ∧ g < W.heap.size := h.lt g rfl
theorem Mk.md {W : World} {B : Nat} {l : List (Int × Int)} {g c : Nat} (h : Mk W B l g c) : W.cell? ⟨g, l.length * 2, none⟩ = some (.int .i64 77) ∧ W.cell? ⟨g, l.length * 2 + 1, none⟩ = some (.int .i64 77) := by
  have hx : (l ++ [((77 : Int), (77 : Int))])[l.length]? = some (77, 77) := by simp
  have h0 := h.cellAt (l.length * 2) (by omega)
  have h1 := h.cellAt (l.length * 2 + 1) (by omega)
  rw [show l.length * 2 = l.length * 2 + 0 from rfl, flat_get encI_len _ l.length 0 _ hx (by omega)] at h0
  rw [flat_get encI_len _ l.length 1 _ hx (by omega)] at h1
  exact ⟨h0, h1⟩
theorem mark_row (W : World) (a : Option Addr) (c : Nat) (l : List (Int × Int)) (hr : RI W (.slice a l.length c) l) (hl : l.length ≤ 100000) :
    ∃ a1 c1 W1 g c2 W2, (Builtin.append_ #[23, 23] 23 #[.slice none 0 0, .slice a l.length c]).run Tryz.prog W = .ok (.slice a1 l.length c1) W1 ∧ (Builtin.append_ #[23, 23] 23 #[.slice a1 l.length c1, .slice (some ⟨W1.heap.size, 0, none⟩) 1 1]).run Tryz.prog (W1.alloc (.cells #[.int .i64 77, .int .i64 77] 28)) = .ok (.slice (some ⟨g, 0, none⟩) (l.length + 1) c2) W2 ∧ Mk W2 W.heap.size l g c2 ∧ Below W.heap.size W W1 ∧ Below W.heap.size W W2 := by
  obtain ⟨v1, W1, hap1, ho1, hg1⟩ := app_nil 23 28 2 16 _ Tryz.underlying23 infoD rfl (by decide) W W.heap.size 23 _ l.length (flat encI l) hr (flat_len encI_len l) encI_oneT (Nat.le_refl _) (by unfold maxLen; omega) (by omega)
  have b1 : Below W.heap.size W W1 := (Below.refl _ W).grown hg1 (Nat.le_refl _) (fun k hk => by cases hk)
  obtain ⟨v2, W2, hap2, ho2, hg2, -⟩ := append_dot W1 23 W.heap.size v1 l 77 77 ho1 b1.size (by omega)
  have b2 : Below W.heap.size W W2 := (ballc b1 _).grown hg2 (ballc b1 _).size (fun k hk => (ho1.lt k hk).1)
  obtain ⟨a1, c1, rfl⟩ := owns_form ho1
  have l2 : (l ++ [((77 : Int), (77 : Int))]).length = l.length + 1 := by simp
  rw [l2] at ho2
  obtain ⟨a2, c2, rfl⟩ := owns_form ho2
  obtain ⟨g, rfl, hc⟩ := own_cap ho2
  exact ⟨a1, c1, W1, g, c2, W2, hap1, hap2, ho2, b1, b2⟩

/-- a step's variables: the log that is told, the step, the result, the row that is handed in -/
structure SF (W : World) (bx by' bz N : Nat) (x0 x1 : Value) (S : Array Value) (l : List (Int × Int)) (g c : Nat) : Prop where
  x : Bx W bx 35 #[x0, x1]
  y : Bx W by' 47 S
  z : Bx W bz 35 #[.slice none 0 0, .slice none 0 0]
  m : Mk W N l g c
theorem SF.kp {N : Nat → Prop} {W W' : World} {bx by' bz B : Nat} {x0 x1 : Value} {S : Array Value} {l : List (Int × Int)} {g c : Nat} (h : SF W bx by' bz B x0 x1 S l g c) (k : Kp N W W') (h1 : ¬ N bx) (h2 : ¬ N by') (h3 : ¬ N bz) (h4 : ¬ N g) : SF W' bx by' bz B x0 x1 S l g c :=
  ⟨h.x.kp k h1, h.y.kp k h2, h.z.kp k h3, h.m.kp k h4⟩
theorem SF.below {W W' : World} {bx by' bz B : Nat} {x0 x1 : Value} {S : Array Value} {l : List (Int × Int)} {g c : Nat} (h : SF W bx by' bz B x0 x1 S l g c) (hb : Below W.heap.size W W') : SF W' bx by' bz B x0 x1 S l g c :=
  h.kp (N := fun _ => False) (Kp.of_below hb) (fun e => e) (fun e => e) (fun e => e) (fun e => e)
theorem SF.setx {W : World} {bx by' bz B : Nat} {x0 x1 : Value} {S : Array Value} {l : List (Int × Int)} {g c : Nat} (h : SF W bx by' bz B x0 x1 S l g c) (y0 y1 : Value) (h2 : by' ≠ bx) (h3 : bz ≠ bx) (h4 : g ≠ bx) : SF ((W.setCell ⟨bx, 0, none⟩ y0).setCell ⟨bx, 1, none⟩ y1) bx by' bz B y0 y1 S l g c := by
  have k := kp2 W bx y0 y1
  exact ⟨box2 h.x y0 y1, h.y.kp k h2, h.z.kp k h3, h.m.kp k h4⟩

/-- what a step has done; K: what is new from there on is the document's -/
structure TS (w W W8 : World) (P P' R : Nat → Prop) (K b : Nat) (x : Value) (B H : List (Int × Int)) (O : List Opn) : Prop where
  ll : LL P' W8 b B H O
  ln : LN (fun i => R i ∨ K ≤ i) W8 x B O
  kp : Kp P W W8
  pp : ∀ i, P' i → (P i ∨ W.heap.size ≤ i) ∧ i < K
  rr : ∀ i, R i → i < W.heap.size ∧ ¬ P i
  k0 : W.heap.size ≤ K
  k1 : K ≤ W8.heap.size
/-- what is told of a step -/
def StA (W : World) (P R : Nat → Prop) (b : Nat) (B H : List (Int × Int)) (O : List Opn) (e : Ending) (W' : World) : Prop :=
  ∃ x' P', e = .returned (.tuple #[x', .bool true]) ∧ LL P' W' b B H O ∧ (∀ i, P' i → (P i ∨ W.heap.size ≤ i) ∧ i < W'.heap.size) ∧ LN (fun i => R i ∨ (W.heap.size ≤ i ∧ ¬ P' i)) W' x' B O ∧ Kp P W W'
theorem TS.fin {w W W8 W' : World} {P P' R : Nat → Prop} {K b gv bz : Nat} {x : Value} {B H : List (Int × Int)} {O : List Opn} (h : TS w W W8 P P' R K b x B H O) (k : Kp (fun i => i = gv ∨ i = bz) W8 W') (h1 : W.heap.size ≤ gv ∧ gv < K ∧ ¬ P' gv) (h2 : W.heap.size ≤ bz ∧ bz < K ∧ ¬ P' bz) : StA W P R b B H O (.returned (.tuple #[x, .bool true])) W' := by
  have hz := k.size
  have z8 := h.k1
  refine ⟨x, P', rfl, h.ll.kp k (fun i e p => ?_), fun i hi => ⟨(h.pp i hi).1, by have := (h.pp i hi).2; omega⟩, (h.ln.kp k (fun i e p => ?_)).mono (fun i hi q => ?_), h.kp.trans k (fun i e => ?_)⟩
  · rcases e with rfl | rfl
    · exact h1.2.2 p
    · exact h2.2.2 p
  · rcases p with p | p
    · have := (h.rr i p).1
      rcases e with rfl | rfl <;> omega
    · rcases e with rfl | rfl <;> omega
  · rcases q with q | q
    · exact .inl q
    · exact .inr ⟨by have := h.k0; omega, fun p => by have := (h.pp i p).2; omega⟩
  · rcases e with rfl | rfl
    · exact .inr h1.1
    · exact .inr h2.1

end Go.Proofs.YtijjoikeceechaaGreat

/-
  The law's step: add.
-/
set_option linter.unusedSimpArgs false
set_option linter.unusedVariables false
namespace Go.Proofs.YtijjoikeceechaaGreat
open Go.RowKit Go.Lib

set_option maxRecDepth 100000 in
set_option maxHeartbeats 16000000 in
theorem step_add {w W : World} {P R : Nat → Prop} {b : Nat} {B H : List (Int × Int)} {O : List Opn} (h : LL P W b B H O) (hP : ∀ i, P i → w.heap.size ≤ i ∧ i < W.heap.size) (hw : Below w.heap.size w W) (x : Value) (hx : LN R W x B O) (hR : ∀ i, R i → i < W.heap.size ∧ ¬ P i) (hRw : ∀ i, i < w.heap.size → R i) (hST : ST B H O) (hn : O.length ≤ 200) (s : Stp) (hs : StW w s) (h1 : s.op.deps.length ≤ 60000) (h2 : s.op.gone.length ≤ 60000) (h3 : s.op.text.size ≤ 60000) (h4 : s.vec.length ≤ 60000) (hk : s.kind = 1) :
    Calls Tryz.prog 11 #[.pointer (some ⟨b, 0, none⟩), x, stA s] W (StA W P R b (doB s B H) (doH s H) (doO s H O)) := by
  obtain ⟨kind, o, vl, vd, vg, vv⟩ := s
  obtain ⟨⟨⟨ad, cd, hd⟩, ⟨ag, cg, hg⟩, ⟨av, cv, hvv⟩⟩, rd, rg, rv, inn, kin⟩ := hs
  simp only at hd hg hvv rd rg rv inn kin h1 h2 h3 h4 hk
  subst hd hg hvv
  subst hk
  unfold doB doH doO stA
  simp only [if_true]
  obtain ⟨EE, hEE⟩ : ∃ x, addE H o = x := ⟨_, rfl⟩
  obtain ⟨H', hH'⟩ : ∃ x, (if EE = 0 then (addV H (o.ds, o.dq)).1 else H) = x := ⟨_, rfl⟩
  obtain ⟨O', hO'⟩ : ∃ x, (if EE = 0 then O ++ [o] else O) = x := ⟨_, rfl⟩
  rw [hEE, hH', hO']
  replace hEE := hide hEE
  replace hH' := hide hH'
  replace hO' := hide hO'
  have hx0 := hx
  obtain ⟨ab, cb, vo, rfl, hB, qB, hO⟩ := hx
  obtain ⟨ao, co, rfl⟩ := rn_form hO
  have lB := ck_len hST.nb
  have zw := hw.size
  obtain ⟨X, hX⟩ : ∃ X, W.alloc (.cells #[.slice ab B.length cb, .slice ao O.length co] 35) = X := ⟨_, rfl⟩
  obtain ⟨Y, hY⟩ : ∃ Y, X.alloc (.cells #[.int .i64 1, .int .i64 o.ds, .int .i64 o.dq, .slice ad o.deps.length cd, .int .i64 o.kind, .int .i64 o.it, .int .i64 o.is, .int .i64 o.rt, .int .i64 o.rs, .string o.text, .slice ag o.gone.length cg, .int .i64 o.site, .slice av vl.length cv] 47) = Y := ⟨_, rfl⟩
  obtain ⟨Z, hZ⟩ : ∃ Z, Y.alloc (.cells #[.slice none 0 0, .slice none 0 0] 35) = Z := ⟨_, rfl⟩
  have bX : Below W.heap.size W X := by rw [← hX]; exact ballc (Below.refl _ _) _
  have bY : Below X.heap.size X Y := by rw [← hY]; exact ballc (Below.refl _ _) _
  have bZ : Below Y.heap.size Y Z := by rw [← hZ]; exact ballc (Below.refl _ _) _
  have xX : Bx X W.heap.size 35 #[.slice ab B.length cb, .slice ao O.length co] := by rw [← hX]; exact Bx.new W _ _
  have yY : Bx Y X.heap.size 47 #[.int .i64 1, .int .i64 o.ds, .int .i64 o.dq, .slice ad o.deps.length cd, .int .i64 o.kind, .int .i64 o.it, .int .i64 o.is, .int .i64 o.rt, .int .i64 o.rs, .string o.text, .slice ag o.gone.length cg, .int .i64 o.site, .slice av vl.length cv] := by rw [← hY]; exact Bx.new X _ _
  have zZ : Bx Z Y.heap.size 35 #[.slice none 0 0, .slice none 0 0] := by rw [← hZ]; exact Bx.new Y _ _
  have wX : W.heap.size < X.heap.size := xX.lt
  have XY : X.heap.size < Y.heap.size := yY.lt
  have YZ : Y.heap.size < Z.heap.size := zZ.lt
  have bW := bnext (bnext bX bY) bZ
  have yZ := yY.below bZ
  obtain ⟨a1, c1, W1, gv, cm, W2, hap1, hap2, hm, b1, b2⟩ := mark_row Z av cv vl ((rv.below hw).below bW) (by omega)
  have sf2 : SF W2 W.heap.size X.heap.size Y.heap.size Z.heap.size (.slice ab B.length cb) (.slice ao O.length co) #[.int .i64 1, .int .i64 o.ds, .int .i64 o.dq, .slice ad o.deps.length cd, .int .i64 o.kind, .int .i64 o.it, .int .i64 o.is, .int .i64 o.rt, .int .i64 o.rs, .string o.text, .slice ag o.gone.length cg, .int .i64 o.site, .slice av vl.length cv] vl gv cm := ⟨((xX.below bY).below bZ).below b2, yZ.below b2, zZ.below b2, hm⟩
  have mcap := hm.cap
  have mlo := hm.lo
  have hsl := fun W n => sl_toVt W (some ⟨gv, 0, none⟩) n cm vl.length (by omega)
  have bW2 := bnext bW b2
  have z2 := b2.size
  have k12 := yZ.cell 12 _ rfl
  have kl := yZ.lt
  have j0 := sf2.y.cell 0 _ rfl
  have j12 := sf2.y.cell 12 _ rfl
  have jl := sf2.y.lt
  replace hap1 := hide hap1
  replace hap2 := hide hap2
  have hH : rvec B O = H := hST.rvec
  have hdW := (rd.below hw).below bW2
  have hgW := RC.below (RC.below rg hw) bW2
  have fit := inn.fit (by omega) (by omega) (by omega)
  have HTw := hide (twin_in o ad ag cd cg W2 hdW hgW (by omega) (by omega))
  have j1 := sf2.y.cell 1 _ rfl
  have j2 := sf2.y.cell 2 _ rfl
  have j3 := sf2.y.cell 3 _ rfl
  have j4 := sf2.y.cell 4 _ rfl
  have j5 := sf2.y.cell 5 _ rfl
  have j6 := sf2.y.cell 6 _ rfl
  have j7 := sf2.y.cell 7 _ rfl
  have j8 := sf2.y.cell 8 _ rfl
  have j9 := sf2.y.cell 9 _ rfl
  have j10 := sf2.y.cell 10 _ rfl
  have j11 := sf2.y.cell 11 _ rfl
  have RV := hide rv
  have RD := hide rd
  have RG := hide rg
  have HL := hide h
  have HX0 := hide hx0
  have HW := hide hw
  have BW2 := hide bW2
  have SF2 := hide sf2
  have QD : Hid (∀ k, rb (.slice ad o.deps.length cd) o.deps.length k → R k) := hide (fun k hk => hRw k (rb_lt rd hk))
  have QG : Hid (∀ k, rb (.slice ag o.gone.length cg) o.gone.length k → R k) := hide (fun k hk => hRw k (rb_lt rg hk))
  have HHR := hide hR
  have HHP := hide hP
  clear h hx0 hB qB hO hR hRw hST hP rv rd rg inn kin bX bY bZ xX yY zZ bW yZ hm b1 b2 sf2 bW2 hw hdW hgW
  go_enter Tryz.func11, Tryz.ntmps11
  go_upto_region 9 with (at_builtin; first | (have H1 := hap1; clear hap1; refine wpList_append_eq rfl _ _ 23 rfl _ _ _ _ rfl rfl (unhide H1) ?_; clear H1) | (have H2 := hap2; clear hap2; refine wpList_append_eq rfl _ _ 23 rfl _ _ _ _ rfl rfl (unhide H2) ?_; clear H2))
  go_wp2_with fail
  refine (unhide HTw).mono ?_
  rintro r W3 ⟨gd, ct, gg, cq, rfl, tw3, hb3⟩
  have z3 := hb3.size
  have SF3 := hide ((unhide SF2).below hb3)
  have B3 := hide (bnext (unhide BW2) hb3)
  obtain ⟨tlo, thi⟩ : (W2.heap.size ≤ gd ∧ gd < W3.heap.size) ∧ (W2.heap.size ≤ gg ∧ gg < W3.heap.size) := ⟨tw3.d.lt gd rfl, tw3.g.lt gg rfl⟩
  obtain ⟨U, hU⟩ : ∃ U, W3.alloc (.cells #[.int .i64 0, .int .i64 0, .slice none 0 0, .int .i64 0, .int .i64 0, .int .i64 0, .int .i64 0, .int .i64 0, .string ⟨#[]⟩, .slice none 0 0, .int .i64 0] 45) = U := ⟨_, rfl⟩
  have bU : Below W3.heap.size W3 U := by rw [← hU]; exact ballc (Below.refl _ _) _
  have xU : Bx U W3.heap.size 45 #[.int .i64 0, .int .i64 0, .slice none 0 0, .int .i64 0, .int .i64 0, .int .i64 0, .int .i64 0, .int .i64 0, .string ⟨#[]⟩, .slice none 0 0, .int .i64 0] := by rw [← hU]; exact Bx.new W3 _ _
  obtain ⟨u0, u1, u2, u3, u4, u5, u6, u7, u8, u9, u10⟩ := cells_op xU
  have uf0 := xU.frozen 0
  have uf1 := xU.frozen 1
  have uf2 := xU.frozen 2
  have uf3 := xU.frozen 3
  have uf4 := xU.frozen 4
  have uf5 := xU.frozen 5
  have uf6 := xU.frozen 6
  have uf7 := xU.frozen 7
  have uf8 := xU.frozen 8
  have uf9 := xU.frozen 9
  have uf10 := xU.frozen 10
  have ul := xU.lt
  obtain ⟨W4, hW4⟩ : ∃ V, (((((((((((U.setCell ⟨W3.heap.size, 0, none⟩ (.int .i64 o.ds)).setCell ⟨W3.heap.size, 1, none⟩ (.int .i64 o.dq)).setCell ⟨W3.heap.size, 2, none⟩ (.slice (some ⟨gd, 0, none⟩) o.deps.length ct)).setCell ⟨W3.heap.size, 3, none⟩ (.int .i64 o.kind)).setCell ⟨W3.heap.size, 4, none⟩ (.int .i64 o.it)).setCell ⟨W3.heap.size, 5, none⟩ (.int .i64 o.is)).setCell ⟨W3.heap.size, 6, none⟩ (.int .i64 o.rt)).setCell ⟨W3.heap.size, 7, none⟩ (.int .i64 o.rs)).setCell ⟨W3.heap.size, 8, none⟩ (.string o.text)).setCell ⟨W3.heap.size, 9, none⟩ (.slice (some ⟨gg, 0, none⟩) o.gone.length cq)).setCell ⟨W3.heap.size, 10, none⟩ (.int .i64 o.site)) = V := ⟨_, rfl⟩
  have t4 : Bx W4 W3.heap.size 45 #[.int .i64 o.ds, .int .i64 o.dq, .slice (some ⟨gd, 0, none⟩) o.deps.length ct, .int .i64 o.kind, .int .i64 o.it, .int .i64 o.is, .int .i64 o.rt, .int .i64 o.rs, .string o.text, .slice (some ⟨gg, 0, none⟩) o.gone.length cq, .int .i64 o.site] := by rw [← hW4]; exact Bx.set11 xU
  have k4 : Kp (fun k => k = W3.heap.size) U W4 := by rw [← hW4]; exact Kp.set11 U W3.heap.size (.int .i64 o.ds) (.int .i64 o.dq) (.slice (some ⟨gd, 0, none⟩) o.deps.length ct) (.int .i64 o.kind) (.int .i64 o.it) (.int .i64 o.is) (.int .i64 o.rt) (.int .i64 o.rs) (.string o.text) (.slice (some ⟨gg, 0, none⟩) o.gone.length cq) (.int .i64 o.site)
  have b34 : Below W3.heap.size W3 W4 := k4.below bU (fun i e => by omega)
  have z4 := b34.size
  have tw4 := tw3.below b34
  have SF4 := hide ((unhide SF3).below b34)
  have B4 := hide (bnext (unhide B3) b34)
  have HA := hide (LAdd_in ((unhide HL).below (unhide B4)) (fun i hi => by have := (unhide HHP i hi).2; have := (unhide B4).size; omega) (by omega) o (some ⟨gd, 0, none⟩) (some ⟨gg, 0, none⟩) ct cq tw4.ri tw4.rr fit (by omega) (by omega) (by omega))
  unfold AddA at HA
  rw [unhide hEE, unhide hH', unhide hO'] at HA
  obtain ⟨v0, v1, v2, v3, v4, v5, v6, v7, v8, v9, v10⟩ := cells_op t4
  have vl4 := t4.lt
  have T4 := hide t4
  have TW4 := hide tw4
  clear HTw hb3 tw3 bU xU t4 tw4 k4 b34 j0 j1 j2 j3 j4 j5 j6 j7 j8 j9 j10 j11 j12 k12
  go_wp2_with fail
  refine (unhide HA).mono ?_
  rintro r W5 ⟨rfl, hl5, k5⟩
  have z5 := k5.size
  have z04 := (unhide B4).size
  have nP : ∀ i, W.heap.size ≤ i → ¬ P i := fun i hi p => by have := (unhide HHP i p).2; omega
  have SF5 := hide ((unhide SF4).kp k5 (nP _ (by omega)) (nP _ (by omega)) (nP _ (by omega)) (nP _ (by omega)))
  have T5 := hide ((unhide T4).kp k5 (nP _ (by omega)))
  have TW5 : Hid (Tw W5 W2.heap.size o.deps o.gone gd ct gg cq) := hide ⟨owns_kp (unhide TW4).d k5 (fun i hi => by simp [Value.ownBlock] at hi; subst hi; exact nP _ (by omega)), owns_kp (unhide TW4).g k5 (fun i hi => by simp [Value.ownBlock] at hi; subst hi; exact nP _ (by omega))⟩
  have HX5 := hide (((unhide HX0).below (unhide B4)).kp k5 (fun i p q => (unhide HHR i q).2 p))
  have L5 := hide hl5.lt
  have K5 : Hid (Kp P W W5) := hide ((Kp.of_below (unhide B4)).trans k5 (fun i p => .inl p))
  have BW5 := hide ((unhide K5).below (unhide HW) (fun i p => (unhide HHP i p).1))
  obtain ⟨ab5, cb5, vo5, e5, hB5, qB5, hO5⟩ := unhide HX5
  simp only [Value.agg.injEq, Array.mk.injEq, List.cons.injEq, Value.slice.injEq, true_and, and_true] at e5
  obtain ⟨⟨rfl, rfl⟩, rfl⟩ := e5
  have HRA := hide (refAdd_in ab cb _ B H O o ad ag cd cg W5 hB5 hO5 (fun i q => by have := (unhide HHR i q).1; omega) hH (by omega) (by omega) ((unhide RD).below (unhide BW5)) (RC.below (unhide RG) (unhide BW5)) fit (by omega) (by omega) (by omega) (unhide QD) (unhide QG))
  have c0 := (unhide SF5).x.cell 0 _ rfl
  have c1 := (unhide SF5).x.cell 1 _ rfl
  have cl := (unhide SF5).x.lt
  have j1 := (unhide SF5).y.cell 1 _ rfl
  have j2 := (unhide SF5).y.cell 2 _ rfl
  have j3 := (unhide SF5).y.cell 3 _ rfl
  have j4 := (unhide SF5).y.cell 4 _ rfl
  have j5 := (unhide SF5).y.cell 5 _ rfl
  have j6 := (unhide SF5).y.cell 6 _ rfl
  have j7 := (unhide SF5).y.cell 7 _ rfl
  have j8 := (unhide SF5).y.cell 8 _ rfl
  have j9 := (unhide SF5).y.cell 9 _ rfl
  have j10 := (unhide SF5).y.cell 10 _ rfl
  have j11 := (unhide SF5).y.cell 11 _ rfl
  have jl5 := (unhide SF5).y.lt
  rw [unhide hEE, unhide hO'] at HRA
  clear HA hl5 k5 hB5 hO5 hU hW4 u0 u1 u2 u3 u4 u5 u6 u7 u8 u9 u10 uf0 uf1 uf2 uf3 uf4 uf5 uf6 uf7 uf8 uf9 uf10 ul v0 v1 v2 v3 v4 v5 v6 v7 v8 v9 v10 vl4
  go_wp2_with fail
  refine (unhide HRA).mono ?_
  rintro r W6 ⟨vo6, rfl, hn6, hb6⟩
  obtain ⟨ao6, co6, rfl⟩ := rn_form hn6
  have z6 := hb6.size
  have sf6 := (unhide SF5).below hb6
  have d0 := sf6.x.cell 0 _ rfl
  have d1 := sf6.x.cell 1 _ rfl
  have df0 := sf6.x.frozen 0
  have df1 := sf6.x.frozen 1
  have dl := sf6.x.lt
  obtain ⟨W7, hW7⟩ : ∃ V, ((W6.setCell ⟨W.heap.size, 0, none⟩ (.slice ab B.length cb)).setCell ⟨W.heap.size, 1, none⟩ (.slice ao6 O'.length co6)) = V := ⟨_, rfl⟩
  have k7 : Kp (fun k => k = W.heap.size) W6 W7 := by rw [← hW7]; exact kp2 W6 W.heap.size _ _
  have sf7 : SF W7 W.heap.size X.heap.size Y.heap.size Z.heap.size (.slice ab B.length cb) (.slice ao6 O'.length co6) #[.int .i64 1, .int .i64 o.ds, .int .i64 o.dq, .slice ad o.deps.length cd, .int .i64 o.kind, .int .i64 o.it, .int .i64 o.is, .int .i64 o.rt, .int .i64 o.rs, .string o.text, .slice ag o.gone.length cg, .int .i64 o.site, .slice av vl.length cv] vl gv cm := by rw [← hW7]; exact sf6.setx _ _ (by omega) (by omega) (by omega)
  have t7 := ((unhide T5).below hb6).kp k7 (by omega)
  have tw6 := (unhide TW5).below hb6
  have tw7 : Tw W7 W2.heap.size o.deps o.gone gd ct gg cq := ⟨owns_kp tw6.d k7 (fun i hi e => by simp [Value.ownBlock] at hi; omega), owns_kp tw6.g k7 (fun i hi e => by simp [Value.ownBlock] at hi; omega)⟩
  have BW7 := hide (k7.below (bnext (unhide BW5) hb6) (fun i e => by omega))
  have HSp := hide (spoil_in o ad ag cd cg W2.heap.size gd ct gg cq W7 tw7 ((unhide RD).below (unhide BW7)) (RC.below (unhide RG) (unhide BW7)) (by omega) (by omega))
  have K7 : Hid (Kp P W W7) := hide (((unhide K5).trans (Kp.of_below (N := fun _ => False) hb6) (fun i e => e.elim)).trans k7 (fun i e => .inr (by omega)))
  have L7 : Hid (LL (fun i => (P i ∨ W4.heap.size ≤ i) ∧ i < W5.heap.size) W7 b B H' O') := hide (((unhide L5).below hb6).kp k7 (fun i e p => by subst e; rcases p.1 with p | p; exact nP _ (Nat.le_refl _) p; omega))
  have N7 : Hid (LN (fun i => R i ∨ W5.heap.size ≤ i) W7 (.agg #[.slice ab B.length cb, .slice ao6 O'.length co6]) B O') := by
    obtain ⟨ab9, cb9, vo9, e9, hB9, qB9, _⟩ := (unhide HX5).below hb6
    simp only [Value.agg.injEq, Array.mk.injEq, List.cons.injEq, Value.slice.injEq, true_and, and_true] at e9
    obtain ⟨⟨rfl, rfl⟩, _⟩ := e9
    have ln6 : LN (fun i => R i ∨ W5.heap.size ≤ i) W6 (.agg #[.slice ab B.length cb, .slice ao6 O'.length co6]) B O' := ⟨ab, cb, _, rfl, hB9, fun k hk => .inl (qB9 k hk), hn6⟩
    exact hide (ln6.kp k7 (fun i e q => by subst e; rcases q with q | q; exact absurd (unhide HHR _ q).1 (by omega); omega))
  obtain ⟨q0, q1, q2, q3, q4, q5, q6, q7, q8, q9, q10⟩ := cells_op t7
  have ql := t7.lt
  have i1 := sf7.y.cell 1 _ rfl
  have i2 := sf7.y.cell 2 _ rfl
  have i3 := sf7.y.cell 3 _ rfl
  have i4 := sf7.y.cell 4 _ rfl
  have i5 := sf7.y.cell 5 _ rfl
  have i6 := sf7.y.cell 6 _ rfl
  have i7 := sf7.y.cell 7 _ rfl
  have i8 := sf7.y.cell 8 _ rfl
  have i9 := sf7.y.cell 9 _ rfl
  have i10 := sf7.y.cell 10 _ rfl
  have i11 := sf7.y.cell 11 _ rfl
  have il := sf7.y.lt
  have SF7 := hide sf7
  clear HRA hn6 sf6 t7 tw6 tw7 sf7 c0 c1 cl j1 j2 j3 j4 j5 j6 j7 j8 j9 j10 j11 jl5 K5 L5 T4 T5 TW4 TW5 SF2 SF3 SF4 SF5 HX0 HX5 BW5
  go_wp2_with fail
  refine (unhide HSp).mono ?_
  rintro r W8 ⟨rfl, k8⟩
  have z7 := k7.size
  have z8 := k8.size
  have SF8 := hide ((unhide SF7).kp k8 (by omega) (by omega) (by omega) (by omega))
  have T8 : Hid (TS w W W8 P (fun i => (P i ∨ W4.heap.size ≤ i) ∧ i < W5.heap.size) R W5.heap.size b (.agg #[.slice ab B.length cb, .slice ao6 O'.length co6]) B H' O') := by
    refine hide ⟨(unhide L7).kp k8 (fun i e p => ?_), (unhide N7).kp k8 (fun i e q => ?_), (unhide K7).trans k8 (fun i e => .inr (by omega)), fun i p => ⟨p.1.imp id (fun p => by omega), p.2⟩, unhide HHR, by omega, by omega⟩
    · rcases p.1 with p | p
      · exact nP i (by omega) p
      · omega
    · rcases q with q | q
      · have := (unhide HHR i q).1; omega
      · omega
  have HG : Hid ((W.heap.size ≤ gv ∧ gv < W5.heap.size ∧ ¬ ((P gv ∨ W4.heap.size ≤ gv) ∧ gv < W5.heap.size)) ∧ (W.heap.size ≤ Y.heap.size ∧ Y.heap.size < W5.heap.size ∧ ¬ ((P Y.heap.size ∨ W4.heap.size ≤ Y.heap.size) ∧ Y.heap.size < W5.heap.size))) := hide ⟨⟨by omega, by omega, fun p => by rcases p.1 with p | p; exact nP _ (by omega) p; omega⟩, by omega, by omega, fun p => by rcases p.1 with p | p; exact nP _ (by omega) p; omega⟩
  have BW := k8.below (unhide BW7) (fun i e => by omega)
  clear HSp k8 k7 SF7 K7 L7 N7 hb6 q0 q1 q2 q3 q4 q5 q6 q7 q8 q9 q10 ql i1 i2 i3 i4 i5 i6 i7 i8 i9 i10 i11 il d0 d1 df0 df1 dl hW7
  have HVs := hide (vectors_in vl vl _ _ W8 (unhide SF8).m.ri ((unhide RV).below BW) (by omega) (by omega))
  rw [decide_eq_true rfl] at HVs
  have e12 := (unhide SF8).y.cell 12 _ rfl
  have el := (unhide SF8).y.lt
  clear BW
  go_wp2_with fail
  refine (unhide HVs).mono ?_
  rintro r W9 ⟨rfl, nd9, hW9⟩
  have hb9 : Below W8.heap.size W8 W9 := by rw [hW9]; exact bdrew (Below.refl _ _) _
  have S9 := hide ((unhide SF8).below hb9)
  have B9 := hide hb9
  have f12 := (unhide S9).y.cell 12 _ rfl
  have fl := (unhide S9).y.lt
  obtain ⟨m0, m1⟩ := (unhide S9).m.md
  have ml := (unhide S9).m.lo.2
  have XM : Hid (OwX W9 28 2 (.slice (some ⟨gv, 0, none⟩) (vl.length + 1) cm) (vl.length + 1)) := hide (OwX.of (unhide S9).m)
  have G9 : Hid (Kp (fun i => i = gv) W9 W9 ∧ SS W9 W9) := hide ⟨Kp.refl _ _, SS.refl _⟩
  have i1 : (vl.length : Int) < (vl.length : Int) + 1 := by omega
  clear HVs hW9 hb9 e12 el
  go_wp2
  clear f12 fl m0 m1 ml i1
  obtain ⟨LV, hLV⟩ : ∃ L, vl.length = L := ⟨_, rfl⟩
  rw [hLV] at XM h4 ⊢
  replace hLV := hide hLV
  go_loopw [20] (fun iv wr => ∃ i : Nat, iv = .int .i64 (i : Nat) ∧ i ≤ LV + 1 ∧ Hid (Kp (fun i => i = gv) W9 wr ∧ SS W9 wr)) (fun iv _ => LV + 1 - (RowKit.intOf iv).toNat)
  case atStart => exact ⟨0, rfl, by omega, G9⟩
  case round =>
    clear G9
    obtain ⟨i, rfl, hi, G9⟩ := hrel
    by_cases hlt : i < LV + 1
    · have hlt' : (i : Int) < (LV : Int) + 1 := by omega
      obtain ⟨g, hge, l0, fz, cc, _⟩ := ((unhide XM).ss (unhide G9).2).at (by omega)
      simp only [Option.some.injEq, Addr.mk.injEq, and_true] at hge
      subst hge
      obtain ⟨y0, d0⟩ := cc (i * 2) (by omega)
      obtain ⟨y1, d1⟩ := cc (i * 2 + 1) (by omega)
      have f0 := fz (i * 2)
      have f1 := fz (i * 2 + 1)
      have G10 : Hid (Kp (fun i => i = gv) W9 ((wr.setCell ⟨gv, i * 2, none⟩ (.int .i64 1)).setCell ⟨gv, i * 2 + 1, none⟩ (.int .i64 1)) ∧ SS W9 ((wr.setCell ⟨gv, i * 2, none⟩ (.int .i64 1)).setCell ⟨gv, i * 2 + 1, none⟩ (.int .i64 1))) :=
        hide ⟨((unhide G9).1.trans (Kp.set (N := fun k => k = gv) _ _ _ rfl) (fun i e => .inl e)).trans (Kp.set (N := fun k => k = gv) _ _ _ rfl) (fun i e => .inl e), ((unhide G9).2.trans (SS.set _ _ _ _)).trans (SS.set _ _ _ _)⟩
      clear G9 fz cc
      go_wp2
      go_roundw
      case rel => exact ⟨i + 1, by go_num, by omega, G10⟩
      case measure => simp [RowKit.intOf]; omega
    · have hlt' : ¬ (i : Int) < (LV : Int) + 1 := by omega
      have xr := (unhide S9).x.kp (unhide G9).1 (by omega)
      have zr := (unhide S9).z.kp (unhide G9).1 (by omega)
      have c0 := xr.cell 0 _ rfl
      have c1 := xr.cell 1 _ rfl
      have cl := xr.lt
      have d0 := zr.cell 0 _ rfl
      have d1 := zr.cell 1 _ rfl
      have f0 := zr.frozen 0
      have f1 := zr.frozen 1
      have dl := zr.lt
      have z2 := hide (box2 zr (.slice ab B.length cb) (.slice ao6 O'.length co6))
      have kf : Hid (Kp (fun i => i = gv ∨ i = Y.heap.size) W8 ((wr.setCell ⟨Y.heap.size, 0, none⟩ (.slice ab B.length cb)).setCell ⟨Y.heap.size, 1, none⟩ (.slice ao6 O'.length co6))) := hide (((Kp.of_below (unhide B9)).trans (unhide G9).1 (fun i e => .inl (.inl e))).trans (kp2 wr Y.heap.size (.slice ab B.length cb) (.slice ao6 O'.length co6)) (fun i e => .inl (.inr e)))
      clear xr zr G9 XM
      go_wp2
      refine bodyPost_ret (results_ct rfl _ _ (Y.heap.size) _ _ _ _ rfl (unhide z2) Tryz.underlying35 rfl sizeLg) rfl ?_
      exact TS.fin (unhide T8) (unhide kf) (unhide HG).1 (unhide HG).2

end Go.Proofs.YtijjoikeceechaaGreat

/-
  The law's step: beyond.
-/
set_option linter.unusedSimpArgs false
set_option linter.unusedVariables false
namespace Go.Proofs.YtijjoikeceechaaGreat
open Go.RowKit Go.Lib

set_option maxRecDepth 100000 in
set_option maxHeartbeats 16000000 in
theorem step_beyond {w W : World} {P R : Nat → Prop} {b : Nat} {B H : List (Int × Int)} {O : List Opn} (h : LL P W b B H O) (hP : ∀ i, P i → w.heap.size ≤ i ∧ i < W.heap.size) (hw : Below w.heap.size w W) (x : Value) (hx : LN R W x B O) (hR : ∀ i, R i → i < W.heap.size ∧ ¬ P i) (hRw : ∀ i, i < w.heap.size → R i) (hST : ST B H O) (hn : O.length ≤ 200) (s : Stp) (hs : StW w s) (h1 : s.op.deps.length ≤ 60000) (h2 : s.op.gone.length ≤ 60000) (h3 : s.op.text.size ≤ 60000) (h4 : s.vec.length ≤ 60000) (hk : s.kind = 2) :
    Calls Tryz.prog 11 #[.pointer (some ⟨b, 0, none⟩), x, stA s] W (StA W P R b (doB s B H) (doH s H) (doO s H O)) := by
  obtain ⟨kind, o, vl, vd, vg, vv⟩ := s
  obtain ⟨⟨⟨ad, cd, hd⟩, ⟨ag, cg, hg⟩, ⟨av, cv, hvv⟩⟩, rd, rg, rv, inn, kin⟩ := hs
  simp only at hd hg hvv rd rg rv inn kin h1 h2 h3 h4 hk
  subst hd hg hvv
  subst hk
  have n21 : ¬ (2 : Int) = 1 := by decide
  have n23 : ¬ (2 : Int) = 3 := by decide
  unfold doB doH doO stA
  simp only [if_neg n21, if_neg n23]
  clear n21 n23
  have hx0 := hx
  obtain ⟨ab, cb, vo, rfl, hB, qB, hO⟩ := hx
  obtain ⟨ao, co, rfl⟩ := rn_form hO
  have lB := ck_len hST.nb
  have zw := hw.size
  obtain ⟨X, hX⟩ : ∃ X, W.alloc (.cells #[.slice ab B.length cb, .slice ao O.length co] 35) = X := ⟨_, rfl⟩
  obtain ⟨Y, hY⟩ : ∃ Y, X.alloc (.cells #[.int .i64 2, .int .i64 o.ds, .int .i64 o.dq, .slice ad o.deps.length cd, .int .i64 o.kind, .int .i64 o.it, .int .i64 o.is, .int .i64 o.rt, .int .i64 o.rs, .string o.text, .slice ag o.gone.length cg, .int .i64 o.site, .slice av vl.length cv] 47) = Y := ⟨_, rfl⟩
  obtain ⟨Z, hZ⟩ : ∃ Z, Y.alloc (.cells #[.slice none 0 0, .slice none 0 0] 35) = Z := ⟨_, rfl⟩
  have bX : Below W.heap.size W X := by rw [← hX]; exact ballc (Below.refl _ _) _
  have bY : Below X.heap.size X Y := by rw [← hY]; exact ballc (Below.refl _ _) _
  have bZ : Below Y.heap.size Y Z := by rw [← hZ]; exact ballc (Below.refl _ _) _
  have xX : Bx X W.heap.size 35 #[.slice ab B.length cb, .slice ao O.length co] := by rw [← hX]; exact Bx.new W _ _
  have yY : Bx Y X.heap.size 47 #[.int .i64 2, .int .i64 o.ds, .int .i64 o.dq, .slice ad o.deps.length cd, .int .i64 o.kind, .int .i64 o.it, .int .i64 o.is, .int .i64 o.rt, .int .i64 o.rs, .string o.text, .slice ag o.gone.length cg, .int .i64 o.site, .slice av vl.length cv] := by rw [← hY]; exact Bx.new X _ _
  have zZ : Bx Z Y.heap.size 35 #[.slice none 0 0, .slice none 0 0] := by rw [← hZ]; exact Bx.new Y _ _
  have wX : W.heap.size < X.heap.size := xX.lt
  have XY : X.heap.size < Y.heap.size := yY.lt
  have YZ : Y.heap.size < Z.heap.size := zZ.lt
  have bW := bnext (bnext bX bY) bZ
  have yZ := yY.below bZ
  obtain ⟨a1, c1, W1, gv, cm, W2, hap1, hap2, hm, b1, b2⟩ := mark_row Z av cv vl ((rv.below hw).below bW) (by omega)
  have sf2 : SF W2 W.heap.size X.heap.size Y.heap.size Z.heap.size (.slice ab B.length cb) (.slice ao O.length co) #[.int .i64 2, .int .i64 o.ds, .int .i64 o.dq, .slice ad o.deps.length cd, .int .i64 o.kind, .int .i64 o.it, .int .i64 o.is, .int .i64 o.rt, .int .i64 o.rs, .string o.text, .slice ag o.gone.length cg, .int .i64 o.site, .slice av vl.length cv] vl gv cm := ⟨((xX.below bY).below bZ).below b2, yZ.below b2, zZ.below b2, hm⟩
  have mcap := hm.cap
  have mlo := hm.lo
  have hsl := fun W n => sl_toVt W (some ⟨gv, 0, none⟩) n cm vl.length (by omega)
  have bW2 := bnext bW b2
  have z2 := b2.size
  have k12 := yZ.cell 12 _ rfl
  have kl := yZ.lt
  have j0 := sf2.y.cell 0 _ rfl
  have j12 := sf2.y.cell 12 _ rfl
  have jl := sf2.y.lt
  replace hap1 := hide hap1
  replace hap2 := hide hap2
  have nP : ∀ i, W.heap.size ≤ i → ¬ P i := fun i hi p => by have := (hP i p).2; omega
  have hbl := bynd_len vl O
  have HB := hide (refBeyond_in ab B.length cb _ _ O vl W2 ((RN.below hO bW2)) ((rv.below hw).below bW2) (by omega) (by omega))
  obtain ⟨BY, hBY⟩ : ∃ x, bynd vl O = x := ⟨_, rfl⟩
  rw [hBY] at HB hbl
  replace hBY := hide hBY
  have RV := hide rv
  have HL := hide h
  have HX0 := hide (hx0.below bW2)
  have HW := hide hw
  have BW2 := hide bW2
  have SF2 := hide sf2
  have HHR := hide hR
  have HHP := hide hP
  have HO2 := hide (RN.below hO bW2)
  have x0 := sf2.x.cell 0 _ rfl
  have x1 := sf2.x.cell 1 _ rfl
  have xl := sf2.x.lt
  clear h hx0 hB qB hO hR hRw hST hP rv rd rg inn kin bX bY bZ xX yY zZ bW yZ hm b1 b2 sf2 bW2 hw
  go_enter Tryz.func11, Tryz.ntmps11
  go_upto_region 14 with (at_builtin; first | (have H1 := hap1; clear hap1; refine wpList_append_eq rfl _ _ 23 rfl _ _ _ _ rfl rfl (unhide H1) ?_; clear H1) | (have H2 := hap2; clear hap2; refine wpList_append_eq rfl _ _ 23 rfl _ _ _ _ rfl rfl (unhide H2) ?_; clear H2))
  go_wp2_with fail
  refine (unhide HB).mono ?_
  rintro r W3 ⟨v3, rfl, hn3, hb3⟩
  obtain ⟨a3, c3, rfl⟩ := rn_form hn3
  have z3 := hb3.size
  have z02 := (unhide BW2).size
  have B3 := hide (bnext (unhide BW2) hb3)
  have N3 := hide hn3
  have SF3 := hide ((unhide SF2).below hb3)
  have HO3 := hide ((unhide HO2).below hb3)
  have HX3 := hide ((unhide HX0).below hb3)
  have HBe := hide (Beyond_in ((unhide HL).below (unhide B3)) (by omega) _ vl (unhide SF3).m.ri (by omega))
  rw [unhide hBY] at HBe
  clear HB hn3 hb3 x0 x1 xl j0 j12 k12 kl jl
  go_wp2_with fail
  refine (unhide HBe).mono ?_
  rintro r W4 ⟨rfl, hit, hb4⟩
  have z4 := hb4.size
  have B4 := hide (bnext (unhide B3) hb4)
  have I4 := hide hit
  have N4 := hide ((unhide N3).below hb4)
  have SF4 := hide ((unhide SF3).below hb4)
  have HO4 := hide ((unhide HO3).below hb4)
  have HX4 := hide ((unhide HX3).below hb4)
  have BW4 := hide (bnext (unhide HW) (unhide B4))
  have HLa := hide (fun (V : World) (hb : Below W4.heap.size W4 V) => KLacks_in (w := w) (W := V) (b := b) (base := B) (hv := H) (os := O) ⟨P, ((unhide HL).below (unhide B4)).below hb, fun i p => ⟨(unhide HHP i p).1, by have := (unhide HHP i p).2; have := hb.size; omega⟩, bnext (unhide BW4) hb⟩ (by omega) (some ⟨gv, 0, none⟩) vl.length cm vl ((unhide SF4).m.ri.below hb) (by omega))
  have HLr := hide (fun (V : World) (hb : Below W4.heap.size W4 V) => refLacks_in ab B.length cb _ _ O vl V ((unhide HO4).below hb) (((unhide RV).below (unhide BW4)).below hb) (by omega) (by omega))
  have HVs : Hid (∀ (V : World) (hb : Below W4.heap.size W4 V), Calls Tryz.prog 10 #[.slice (some ⟨gv, 0, none⟩) vl.length cm, .slice av vl.length cv] V fun e V' => e = .returned (.bool true) ∧ Below V.heap.size V V') := hide (fun V hb => by
    refine (vectors_in vl vl _ _ V ((unhide SF4).m.ri.below hb) (((unhide RV).below (unhide BW4)).below hb) (by omega) (by omega)).mono ?_
    rintro e V' ⟨rfl, n, rfl⟩
    exact ⟨by rw [decide_eq_true rfl], bdrew (Below.refl _ _) _⟩)
  rw [unhide hBY] at HLa HLr
  have hneq : ∀ (n : Nat) W, (binOp .neq 55 (.func (.func 40) #[] #[.pointer (some ⟨n, 0, none⟩)]) .nilFunc).run Tryz.prog W = .ok (.bool true) W := fun n W => run_neq_func_nil W _ _ _ _ Tryz.underlying55
  have x0 := (unhide SF4).x.cell 0 _ rfl
  have x1 := (unhide SF4).x.cell 1 _ rfl
  have xl := (unhide SF4).x.lt
  have y12 := (unhide SF4).y.cell 12 _ rfl
  obtain ⟨m0, m1⟩ := (unhide SF4).m.md
  have ml := (unhide SF4).m.lo.2
  have hne := BelowOf.ne W4
  have mixed : Tryz.prog.follows .mixedOrders = true := by kernel_rfl
  have k0 : ∀ p : BelowOf W4, p.w.cell? ⟨W.heap.size, 0, none⟩ = some (.slice ab B.length cb) := fun p => cell_below x0 p.h
  have k1 : ∀ p : BelowOf W4, p.w.cell? ⟨W.heap.size, 1, none⟩ = some (.slice ao O.length co) := fun p => cell_below x1 p.h
  have k2 : ∀ p : BelowOf W4, p.w.cell? ⟨X.heap.size, 12, none⟩ = some (.slice av vl.length cv) := fun p => cell_below y12 p.h
  have k3 : ∀ p : BelowOf W4, p.w.cell? ⟨gv, vl.length * 2 + 1, none⟩ = some (.int .i64 77) := fun p => cell_below m1 p.h
  have i1 : (vl.length : Int) < (vl.length : Int) + 1 := by omega
  unfold itV at *
  clear HBe hit hb4 SF2 SF3 HO2 HO3 N3 x0 x1 y12 m0 m1 hBY
  go_wp2_with fail
  refine wp_region_quiet_below mixed (by kernel_rfl) ?_
  repeat (any_goals (first | go_big_quiet_step ((first | (go_at_call 22; exact below_of (unhide HLa _ (BelowOf.h _))) | (go_at_call 33; exact below_of (unhide HLr _ (BelowOf.h _))) | (go_at_call 10; exact below_of (unhide HVs _ (BelowOf.h _))))) | quiet_step ((first | (go_at_call 22; exact below_of (unhide HLa _ (BelowOf.h _))) | (go_at_call 33; exact below_of (unhide HLr _ (BelowOf.h _))) | (go_at_call 10; exact below_of (unhide HVs _ (BelowOf.h _)))))))
  all_goals (refine wpQuiet_nil ?_; intro _ hw'; obtain ⟨p, hw''⟩ := hw'; subst hw'')
  have hb5 := p.h
  generalize p.w = W5 at hb5 ⊢
  have z5 := hb5.size
  have S9 := hide ((unhide SF4).below hb5)
  have XM : Hid (OwX W5 28 2 (.slice (some ⟨gv, 0, none⟩) (vl.length + 1) cm) (vl.length + 1)) := hide (OwX.of (unhide S9).m)
  have G9 : Hid (Kp (fun i => i = gv) W5 W5 ∧ SS W5 W5) := hide ⟨Kp.refl _ _, SS.refl _⟩
  have I5 : Hid (IT (fun i => P i ∨ W3.heap.size ≤ i) W5 W3.heap.size BY) := by
    obtain ⟨v, ops, hit, e⟩ := unhide I4
    exact hide ⟨v, ops, hit.below hb5, e⟩
  have N5 := hide ((unhide N4).below hb5)
  have T5 : Hid (TS w W W5 P P R W2.heap.size b (.agg #[.slice ab B.length cb, .slice ao O.length co]) B H O) := hide ⟨((unhide HL).below (unhide B4)).below hb5, ((unhide HX4).below hb5).mono (fun i _ q => .inl q), Kp.of_below (bnext (unhide B4) hb5), fun i p => ⟨.inl p, by have := (unhide HHP i p).2; omega⟩, unhide HHR, by omega, by omega⟩
  clear HLa HLr HVs hne k0 k1 k2 k3 SF4 I4 N4 HX0 HX3 HX4 HO4 B3 B4 BW4 HL xl
  go_wp2
  clear i1
  obtain ⟨LV, hLV⟩ : ∃ L, vl.length = L := ⟨_, rfl⟩
  rw [hLV] at XM h4 ⊢
  replace hLV := hide hLV
  go_loopw [16] (fun iv wr => ∃ i : Nat, iv = .int .i64 (i : Nat) ∧ i ≤ LV + 1 ∧ Hid (Kp (fun i => i = gv) W5 wr ∧ SS W5 wr)) (fun iv _ => LV + 1 - (RowKit.intOf iv).toNat)
  case atStart => exact ⟨0, rfl, by omega, G9⟩
  case round =>
    clear G9
    obtain ⟨i, rfl, hi, G9⟩ := hrel
    by_cases hlt : i < LV + 1
    · have hlt' : (i : Int) < (LV : Int) + 1 := by omega
      obtain ⟨g, hge, l0, fz, cc, _⟩ := ((unhide XM).ss (unhide G9).2).at (by omega)
      simp only [Option.some.injEq, Addr.mk.injEq, and_true] at hge
      subst hge
      obtain ⟨y0, d0⟩ := cc (i * 2) (by omega)
      obtain ⟨y1, d1⟩ := cc (i * 2 + 1) (by omega)
      have f0 := fz (i * 2)
      have f1 := fz (i * 2 + 1)
      have G10 : Hid (Kp (fun i => i = gv) W5 ((wr.setCell ⟨gv, i * 2, none⟩ (.int .i64 1)).setCell ⟨gv, i * 2 + 1, none⟩ (.int .i64 1)) ∧ SS W5 ((wr.setCell ⟨gv, i * 2, none⟩ (.int .i64 1)).setCell ⟨gv, i * 2 + 1, none⟩ (.int .i64 1))) :=
        hide ⟨((unhide G9).1.trans (Kp.set (N := fun k => k = gv) _ _ _ rfl) (fun i e => .inl e)).trans (Kp.set (N := fun k => k = gv) _ _ _ rfl) (fun i e => .inl e), ((unhide G9).2.trans (SS.set _ _ _ _)).trans (SS.set _ _ _ _)⟩
      clear G9 fz cc
      go_wp2
      go_roundw
      case rel => exact ⟨i + 1, by go_num, by omega, G10⟩
      case measure => simp [RowKit.intOf]; omega
    · have hlt' : ¬ (i : Int) < (LV : Int) + 1 := by omega
      have xr := hide ((unhide S9).x.kp (unhide G9).1 (by omega))
      have zr := hide ((unhide S9).z.kp (unhide G9).1 (by omega))
      have c0 := (unhide xr).cell 0 _ rfl
      have c1 := (unhide xr).cell 1 _ rfl
      have cl := (unhide xr).lt
      have IR : Hid (IT (fun i => P i ∨ W3.heap.size ≤ i) wr W3.heap.size BY) := by
        obtain ⟨v, ops, hit, e⟩ := unhide I5
        exact hide ⟨v, ops, hit.kp (unhide G9).1 (fun i e p => by subst e; rcases p with p | p; exact nP _ (by omega) p; omega), e⟩
      have nR : ∀ i, W.heap.size ≤ i → ¬ R i := fun i hi q => by have := (unhide HHR i q).1; omega
      have NR := hide ((unhide N5).kp (unhide G9).1 (fun i e q => by subst e; rcases q with q | q; exact nR _ (by omega) q; omega))
      have HRe := hide (fun (V : World) (hb : Below wr.heap.size wr V) => Krest_in (W := V) (nb := W3.heap.size) (os := BY) (IT.lt (by obtain ⟨v, ops, hit, e⟩ := unhide IR; exact ⟨v, ops, hit.below hb, e⟩)) 201 (by omega))
      unfold itV at HRe
      clear XM I5 N5
      go_wp2_with fail
      go_region_with (first
        | (go_at_call 20; refine (unhide HRe _ (Below.refl _ _).drew).mono ?_; rintro r W6 ⟨a6, c6, rfl, hr6, hb6⟩; have P6 := hide (bnext (Below.refl wr.heap.size wr).drew hb6); have HOp := hide (ops2_in _ _ BY hr6.rn ((unhide NR).below (unhide P6)) (by omega)); have xq := ((unhide xr).below (unhide P6)); have m0 := xq.cell 0 _ rfl; have m1 := xq.cell 1 _ rfl; have ml6 := xq.lt; clear xq hr6 hb6)
        | (go_at_call 19; refine (unhide HOp).mono ?_; rintro r W7 ⟨rfl, hb7⟩; have P7 := hide (bnext (unhide P6) hb7); have xq := ((unhide xr).below (unhide P7)); have n0 := xq.cell 0 _ rfl; have n1 := xq.cell 1 _ rfl; have nl := xq.lt; have zq := ((unhide zr).below (unhide P7)); have o0 := zq.cell 0 _ rfl; have o1 := zq.cell 1 _ rfl; have of0 := zq.frozen 0; have of1 := zq.frozen 1; have ol := zq.lt; clear xq zq hb7 HOp))
      all_goals (
        have z2 := hide (box2 ((unhide zr).below (unhide P7)) (.slice ab B.length cb) (.slice ao O.length co))
        have kf : Hid (Kp (fun i => i = gv ∨ i = Y.heap.size) W5 ((W7.setCell ⟨Y.heap.size, 0, none⟩ (.slice ab B.length cb)).setCell ⟨Y.heap.size, 1, none⟩ (.slice ao O.length co))) := hide ((((unhide G9).1.wk (fun i e => .inl e)).trans (Kp.of_below (N := fun _ => False) (unhide P7)) (fun i e => e.elim)).trans (kp2 W7 Y.heap.size _ _) (fun i e => .inl (.inr e)))
        have h1 : W.heap.size ≤ gv ∧ gv < W2.heap.size ∧ ¬ P gv := ⟨by omega, mlo.2, nP _ (by omega)⟩
        have h2 : W.heap.size ≤ Y.heap.size ∧ Y.heap.size < W2.heap.size ∧ ¬ P Y.heap.size := ⟨by omega, by omega, nP _ (by omega)⟩
        go_wp2
        refine bodyPost_ret (results_ct rfl _ _ (Y.heap.size) _ _ _ _ rfl (unhide z2) Tryz.underlying35 rfl sizeLg) rfl ?_
        exact TS.fin (unhide T5) (unhide kf) h1 h2)

end Go.Proofs.YtijjoikeceechaaGreat

/-
  The law's step: cut.
-/
set_option linter.unusedSimpArgs false
set_option linter.unusedVariables false
namespace Go.Proofs.YtijjoikeceechaaGreat
open Go.RowKit Go.Lib

set_option maxRecDepth 100000 in
set_option maxHeartbeats 16000000 in
theorem step_cut {w W : World} {P R : Nat → Prop} {b : Nat} {B H : List (Int × Int)} {O : List Opn} (h : LL P W b B H O) (hP : ∀ i, P i → w.heap.size ≤ i ∧ i < W.heap.size) (hw : Below w.heap.size w W) (x : Value) (hx : LN R W x B O) (hR : ∀ i, R i → i < W.heap.size ∧ ¬ P i) (hRw : ∀ i, i < w.heap.size → R i) (hST : ST B H O) (hn : O.length ≤ 200) (s : Stp) (hs : StW w s) (h1 : s.op.deps.length ≤ 60000) (h2 : s.op.gone.length ≤ 60000) (h3 : s.op.text.size ≤ 60000) (h4 : s.vec.length ≤ 60000) (hk : s.kind = 3) :
    Calls Tryz.prog 11 #[.pointer (some ⟨b, 0, none⟩), x, stA s] W (StA W P R b (doB s B H) (doH s H) (doO s H O)) := by
  obtain ⟨kind, o, vl, vd, vg, vv⟩ := s
  obtain ⟨⟨⟨ad, cd, hd⟩, ⟨ag, cg, hg⟩, ⟨av, cv, hvv⟩⟩, rd, rg, rv, inn, kin⟩ := hs
  simp only at hd hg hvv rd rg rv inn kin h1 h2 h3 h4 hk
  subst hd hg hvv
  subst hk
  have n31 : ¬ (3 : Int) = 1 := by decide
  unfold doB doH doO stA
  simp only [if_neg n31, if_true]
  obtain ⟨EE, hEE⟩ : ∃ x, cutE H vl = x := ⟨_, rfl⟩
  obtain ⟨B', hB'⟩ : ∃ x, (if EE = 0 then vec (mrg (sy B) (sy vl)) else B) = x := ⟨_, rfl⟩
  obtain ⟨O', hO'⟩ : ∃ x, (if EE = 0 then prL vl false O else O) = x := ⟨_, rfl⟩
  obtain ⟨X', hX'⟩ : ∃ x, (if EE = 0 then prL vl true O else []) = x := ⟨_, rfl⟩
  have lX' : X'.length ≤ 200 := by
    rw [← hX']
    split
    · exact Nat.le_trans (List.length_filter_le _ _) hn
    · simp
  rw [hEE, hB', hO']
  replace hEE := hide hEE
  replace hB' := hide hB'
  replace hO' := hide hO'
  replace hX' := hide hX'
  clear n31
  have hx0 := hx
  obtain ⟨ab, cb, vo, rfl, hB, qB, hO⟩ := hx
  obtain ⟨ao, co, rfl⟩ := rn_form hO
  have lB := ck_len hST.nb
  have zw := hw.size
  obtain ⟨X, hX⟩ : ∃ X, W.alloc (.cells #[.slice ab B.length cb, .slice ao O.length co] 35) = X := ⟨_, rfl⟩
  obtain ⟨Y, hY⟩ : ∃ Y, X.alloc (.cells #[.int .i64 3, .int .i64 o.ds, .int .i64 o.dq, .slice ad o.deps.length cd, .int .i64 o.kind, .int .i64 o.it, .int .i64 o.is, .int .i64 o.rt, .int .i64 o.rs, .string o.text, .slice ag o.gone.length cg, .int .i64 o.site, .slice av vl.length cv] 47) = Y := ⟨_, rfl⟩
  obtain ⟨Z, hZ⟩ : ∃ Z, Y.alloc (.cells #[.slice none 0 0, .slice none 0 0] 35) = Z := ⟨_, rfl⟩
  have bX : Below W.heap.size W X := by rw [← hX]; exact ballc (Below.refl _ _) _
  have bY : Below X.heap.size X Y := by rw [← hY]; exact ballc (Below.refl _ _) _
  have bZ : Below Y.heap.size Y Z := by rw [← hZ]; exact ballc (Below.refl _ _) _
  have xX : Bx X W.heap.size 35 #[.slice ab B.length cb, .slice ao O.length co] := by rw [← hX]; exact Bx.new W _ _
  have yY : Bx Y X.heap.size 47 #[.int .i64 3, .int .i64 o.ds, .int .i64 o.dq, .slice ad o.deps.length cd, .int .i64 o.kind, .int .i64 o.it, .int .i64 o.is, .int .i64 o.rt, .int .i64 o.rs, .string o.text, .slice ag o.gone.length cg, .int .i64 o.site, .slice av vl.length cv] := by rw [← hY]; exact Bx.new X _ _
  have zZ : Bx Z Y.heap.size 35 #[.slice none 0 0, .slice none 0 0] := by rw [← hZ]; exact Bx.new Y _ _
  have wX : W.heap.size < X.heap.size := xX.lt
  have XY : X.heap.size < Y.heap.size := yY.lt
  have YZ : Y.heap.size < Z.heap.size := zZ.lt
  have bW := bnext (bnext bX bY) bZ
  have yZ := yY.below bZ
  obtain ⟨a1, c1, W1, gv, cm, W2, hap1, hap2, hm, b1, b2⟩ := mark_row Z av cv vl ((rv.below hw).below bW) (by omega)
  have sf2 : SF W2 W.heap.size X.heap.size Y.heap.size Z.heap.size (.slice ab B.length cb) (.slice ao O.length co) #[.int .i64 3, .int .i64 o.ds, .int .i64 o.dq, .slice ad o.deps.length cd, .int .i64 o.kind, .int .i64 o.it, .int .i64 o.is, .int .i64 o.rt, .int .i64 o.rs, .string o.text, .slice ag o.gone.length cg, .int .i64 o.site, .slice av vl.length cv] vl gv cm := ⟨((xX.below bY).below bZ).below b2, yZ.below b2, zZ.below b2, hm⟩
  have mcap := hm.cap
  have mlo := hm.lo
  have hsl := fun W n => sl_toVt W (some ⟨gv, 0, none⟩) n cm vl.length (by omega)
  have bW2 := bnext bW b2
  have z2 := b2.size
  have k12 := yZ.cell 12 _ rfl
  have kl := yZ.lt
  have j0 := sf2.y.cell 0 _ rfl
  have j12 := sf2.y.cell 12 _ rfl
  have jl := sf2.y.lt
  replace hap1 := hide hap1
  replace hap2 := hide hap2
  have hH : rvec B O = H := hST.rvec
  have nP : ∀ i, W.heap.size ≤ i → ¬ P i := fun i hi p => by have := (hP i p).2; omega
  have HC := hide (Cut_in (h.below bW2) (fun i hi => by have := (hP i hi).2; have := bW2.size; omega) (by omega) (.slice (some ⟨gv, 0, none⟩) vl.length cm) vl sf2.m.ri (by omega) (fun k hk p => by have := hk.2; simp [Value.ownBlock] at this; subst this; exact nP _ (by omega) p))
  unfold CutA at HC
  rw [unhide hEE, unhide hB', unhide hO', unhide hX'] at HC
  have RV := hide rv
  have HX0 := hide (hx0.below bW2)
  have HW := hide hw
  have BW2 := hide bW2
  have SF2 := hide sf2
  have HHR := hide hR
  have HHP := hide hP
  clear h hx0 hB qB hO hR hRw hST hP rv rd rg inn kin bX bY bZ xX yY zZ bW yZ hm b1 b2 sf2 bW2 hw
  go_enter Tryz.func11, Tryz.ntmps11
  go_upto_region 23 with (at_builtin; first | (have H1 := hap1; clear hap1; refine wpList_append_eq rfl _ _ 23 rfl _ _ _ _ rfl rfl (unhide H1) ?_; clear H1) | (have H2 := hap2; clear hap2; refine wpList_append_eq rfl _ _ 23 rfl _ _ _ _ rfl rfl (unhide H2) ?_; clear H2))
  go_wp2_with fail
  refine (unhide HC).mono ?_
  rintro r W3 ⟨vg3, M, rfl, hM1, hM2, hr3, hl3, k3⟩
  obtain ⟨ag3, cg3, rfl⟩ := rl_form hr3
  have z3 := k3.size
  have z02 := (unhide BW2).size
  have SF3 := hide ((unhide SF2).kp k3 (nP _ (by omega)) (nP _ (by omega)) (nP _ (by omega)) (nP _ (by omega)))
  have HX3 := hide ((unhide HX0).kp k3 (fun i p q => (unhide HHR i q).2 p))
  have L3 := hide hl3.lt
  have R3 := hide hr3
  have K3 : Hid (Kp P W W3) := hide ((Kp.of_below (unhide BW2)).trans k3 (fun i p => .inl p))
  have BW3 := hide ((unhide K3).below (unhide HW) (fun i p => (unhide HHP i p).1))
  have HRC := hide (refCut_in (.agg #[.slice ab B.length cb, .slice ao O.length co]) _ B H vl O W3 (unhide HX3) (fun i q => by have := (unhide HHR i q).1; omega) hH (by omega) (by omega) ((unhide RV).below (unhide BW3)) (by omega))
  rw [unhide hEE, unhide hB', unhide hO', unhide hX'] at HRC
  have c0 := (unhide SF3).x.cell 0 _ rfl
  have c1 := (unhide SF3).x.cell 1 _ rfl
  have cl := (unhide SF3).x.lt
  have j12' := (unhide SF3).y.cell 12 _ rfl
  have jl3 := (unhide SF3).y.lt
  clear HC hr3 hl3 k3 j0 j12 k12 kl jl
  go_wp2_with fail
  refine (unhide HRC).mono ?_
  rintro r W4 ⟨x4, vg4, rfl, hn4, hr4, hb4⟩
  have N4 := hide hn4
  obtain ⟨ab4, cb4, vo4, rfl, _, _, ho4⟩ := hn4
  obtain ⟨ao4, co4, rfl⟩ := rn_form ho4
  obtain ⟨ag4, cg4, rfl⟩ := rn_form hr4
  have z4 := hb4.size
  have sf4 := (unhide SF3).below hb4
  have d0 := sf4.x.cell 0 _ rfl
  have d1 := sf4.x.cell 1 _ rfl
  have df0 := sf4.x.frozen 0
  have df1 := sf4.x.frozen 1
  have dl := sf4.x.lt
  obtain ⟨W5, hW5⟩ : ∃ V, ((W4.setCell ⟨W.heap.size, 0, none⟩ (.slice ab4 B'.length cb4)).setCell ⟨W.heap.size, 1, none⟩ (.slice ao4 O'.length co4)) = V := ⟨_, rfl⟩
  have k5 : Kp (fun k => k = W.heap.size) W4 W5 := by rw [← hW5]; exact kp2 W4 W.heap.size _ _
  have z5 := k5.size
  have sf5 : SF W5 W.heap.size X.heap.size Y.heap.size Z.heap.size (.slice ab4 B'.length cb4) (.slice ao4 O'.length co4) #[.int .i64 3, .int .i64 o.ds, .int .i64 o.dq, .slice ad o.deps.length cd, .int .i64 o.kind, .int .i64 o.it, .int .i64 o.is, .int .i64 o.rt, .int .i64 o.rs, .string o.text, .slice ag o.gone.length cg, .int .i64 o.site, .slice av vl.length cv] vl gv cm := by rw [← hW5]; exact sf4.setx _ _ (by omega) (by omega) (by omega)
  have SF5 := hide sf5
  have nR : ∀ i, W.heap.size ≤ i → ¬ R i := fun i hi q => by have := (unhide HHR i q).1; omega
  have R5 := hide (((unhide R3).below hb4).kp k5 (fun i e p => by have := p.1; omega))
  have G5 := hide (hr4.kp k5 (fun i e q => by subst e; rcases q with q | q; exact nR _ (Nat.le_refl _) q; omega))
  have N5 := hide ((unhide N4).kp k5 (fun i e q => by subst e; rcases q with q | q; exact nR _ (Nat.le_refl _) q; omega))
  have L5 : Hid (LL (fun i => (P i ∨ M ≤ i) ∧ i < W3.heap.size) W5 b B' H O') := hide (((unhide L3).below hb4).kp k5 (fun i e p => by subst e; rcases p.1 with p | p; exact nP _ (Nat.le_refl _) p; omega))
  have K5 : Hid (Kp P W W5) := hide (((unhide K3).trans (Kp.of_below (N := fun _ => False) hb4) (fun i e => e.elim)).trans k5 (fun i e => .inr (by omega)))
  have HOp := hide (ops2_in _ _ X' (unhide R5).rn (unhide G5) (by omega))
  clear HRC hr4 ho4 sf4 sf5 c0 c1 cl j12' jl3 N4 K3 L3 R3 SF2 SF3 HX0 HX3 BW3 k5 hb4
  go_wp2_with fail
  refine (unhide HOp).mono ?_
  rintro r W6 ⟨rfl, hb6⟩
  have z6 := hb6.size
  have HWi := hide (wipe_in _ X' ((unhide R5).below hb6) (by omega))
  have SF6 := hide ((unhide SF5).below hb6)
  have N6 := hide ((unhide N5).below hb6)
  have L6 := hide ((unhide L5).below hb6)
  have K6 : Hid (Kp P W W6) := hide ((unhide K5).trans (Kp.of_below (N := fun _ => False) hb6) (fun i e => e.elim))
  clear HOp hb6 SF5 N5 L5 K5 R5 G5 d0 d1 df0 df1 dl hW5
  go_wp2_with fail
  refine (unhide HWi).mono ?_
  rintro r W8 ⟨rfl, k8⟩
  have z8 := k8.size
  have SF8 := hide ((unhide SF6).kp k8 (by omega) (by omega) (by omega) (by omega))
  have T8 : Hid (TS w W W8 P (fun i => (P i ∨ M ≤ i) ∧ i < W3.heap.size) R W3.heap.size b (.agg #[.slice ab4 B'.length cb4, .slice ao4 O'.length co4]) B' H O') := by
    refine hide ⟨(unhide L6).kp k8 (fun i e p => ?_), (unhide N6).kp k8 (fun i e q => ?_), (unhide K6).trans k8 (fun i e => .inr (by have := e.1; omega)), fun i p => ⟨p.1.imp id (fun p => by omega), p.2⟩, unhide HHR, by omega, by omega⟩
    · rcases p.1 with p | p
      · exact nP i (by have := e.1; omega) p
      · have := e.2; omega
    · rcases q with q | q
      · exact nR i (by have := e.1; omega) q
      · have := e.2; omega
  have HG : Hid ((W.heap.size ≤ gv ∧ gv < W3.heap.size ∧ ¬ ((P gv ∨ M ≤ gv) ∧ gv < W3.heap.size)) ∧ (W.heap.size ≤ Y.heap.size ∧ Y.heap.size < W3.heap.size ∧ ¬ ((P Y.heap.size ∨ M ≤ Y.heap.size) ∧ Y.heap.size < W3.heap.size))) := hide ⟨⟨by omega, by omega, fun p => by rcases p.1 with p | p; exact nP _ (by omega) p; omega⟩, by omega, by omega, fun p => by rcases p.1 with p | p; exact nP _ (by omega) p; omega⟩
  have BW := ((unhide T8).kp).below (unhide HW) (fun i p => (unhide HHP i p).1)
  clear HWi k8 SF6 N6 L6 K6
  have HVs := hide (vectors_in vl vl _ _ W8 (unhide SF8).m.ri ((unhide RV).below BW) (by omega) (by omega))
  rw [decide_eq_true rfl] at HVs
  have e12 := (unhide SF8).y.cell 12 _ rfl
  have el := (unhide SF8).y.lt
  clear BW
  go_wp2_with fail
  refine (unhide HVs).mono ?_
  rintro r W9 ⟨rfl, nd9, hW9⟩
  have hb9 : Below W8.heap.size W8 W9 := by rw [hW9]; exact bdrew (Below.refl _ _) _
  have S9 := hide ((unhide SF8).below hb9)
  have B9 := hide hb9
  have f12 := (unhide S9).y.cell 12 _ rfl
  have fl := (unhide S9).y.lt
  obtain ⟨m0, m1⟩ := (unhide S9).m.md
  have ml := (unhide S9).m.lo.2
  have XM : Hid (OwX W9 28 2 (.slice (some ⟨gv, 0, none⟩) (vl.length + 1) cm) (vl.length + 1)) := hide (OwX.of (unhide S9).m)
  have G9 : Hid (Kp (fun i => i = gv) W9 W9 ∧ SS W9 W9) := hide ⟨Kp.refl _ _, SS.refl _⟩
  have i1 : (vl.length : Int) < (vl.length : Int) + 1 := by omega
  clear HVs hW9 hb9 e12 el
  go_wp2
  clear f12 fl m0 m1 ml i1
  obtain ⟨LV, hLV⟩ : ∃ L, vl.length = L := ⟨_, rfl⟩
  rw [hLV] at XM h4 ⊢
  replace hLV := hide hLV
  go_loopw [20] (fun iv wr => ∃ i : Nat, iv = .int .i64 (i : Nat) ∧ i ≤ LV + 1 ∧ Hid (Kp (fun i => i = gv) W9 wr ∧ SS W9 wr)) (fun iv _ => LV + 1 - (RowKit.intOf iv).toNat)
  case atStart => exact ⟨0, rfl, by omega, G9⟩
  case round =>
    clear G9
    obtain ⟨i, rfl, hi, G9⟩ := hrel
    by_cases hlt : i < LV + 1
    · have hlt' : (i : Int) < (LV : Int) + 1 := by omega
      obtain ⟨g, hge, l0, fz, cc, _⟩ := ((unhide XM).ss (unhide G9).2).at (by omega)
      simp only [Option.some.injEq, Addr.mk.injEq, and_true] at hge
      subst hge
      obtain ⟨y0, d0⟩ := cc (i * 2) (by omega)
      obtain ⟨y1, d1⟩ := cc (i * 2 + 1) (by omega)
      have f0 := fz (i * 2)
      have f1 := fz (i * 2 + 1)
      have G10 : Hid (Kp (fun i => i = gv) W9 ((wr.setCell ⟨gv, i * 2, none⟩ (.int .i64 1)).setCell ⟨gv, i * 2 + 1, none⟩ (.int .i64 1)) ∧ SS W9 ((wr.setCell ⟨gv, i * 2, none⟩ (.int .i64 1)).setCell ⟨gv, i * 2 + 1, none⟩ (.int .i64 1))) :=
        hide ⟨((unhide G9).1.trans (Kp.set (N := fun k => k = gv) _ _ _ rfl) (fun i e => .inl e)).trans (Kp.set (N := fun k => k = gv) _ _ _ rfl) (fun i e => .inl e), ((unhide G9).2.trans (SS.set _ _ _ _)).trans (SS.set _ _ _ _)⟩
      clear G9 fz cc
      go_wp2
      go_roundw
      case rel => exact ⟨i + 1, by go_num, by omega, G10⟩
      case measure => simp [RowKit.intOf]; omega
    · have hlt' : ¬ (i : Int) < (LV : Int) + 1 := by omega
      have xr := (unhide S9).x.kp (unhide G9).1 (by omega)
      have zr := (unhide S9).z.kp (unhide G9).1 (by omega)
      have c0 := xr.cell 0 _ rfl
      have c1 := xr.cell 1 _ rfl
      have cl := xr.lt
      have d0 := zr.cell 0 _ rfl
      have d1 := zr.cell 1 _ rfl
      have f0 := zr.frozen 0
      have f1 := zr.frozen 1
      have dl := zr.lt
      have z2 := hide (box2 zr (.slice ab4 B'.length cb4) (.slice ao4 O'.length co4))
      have kf : Hid (Kp (fun i => i = gv ∨ i = Y.heap.size) W8 ((wr.setCell ⟨Y.heap.size, 0, none⟩ (.slice ab4 B'.length cb4)).setCell ⟨Y.heap.size, 1, none⟩ (.slice ao4 O'.length co4))) := hide (((Kp.of_below (unhide B9)).trans (unhide G9).1 (fun i e => .inl (.inl e))).trans (kp2 wr Y.heap.size (.slice ab4 B'.length cb4) (.slice ao4 O'.length co4)) (fun i e => .inl (.inr e)))
      clear xr zr G9 XM
      go_wp2
      refine bodyPost_ret (results_ct rfl _ _ (Y.heap.size) _ _ _ _ rfl (unhide z2) Tryz.underlying35 rfl sizeLg) rfl ?_
      exact TS.fin (unhide T8) (unhide kf) (unhide HG).1 (unhide HG).2

end Go.Proofs.YtijjoikeceechaaGreat

/-
  The law's step: else.
-/
set_option linter.unusedSimpArgs false
set_option linter.unusedVariables false
namespace Go.Proofs.YtijjoikeceechaaGreat
open Go.RowKit Go.Lib

set_option maxRecDepth 100000 in
set_option maxHeartbeats 16000000 in
theorem step_else {w W : World} {P R : Nat → Prop} {b : Nat} {B H : List (Int × Int)} {O : List Opn} (h : LL P W b B H O) (hP : ∀ i, P i → w.heap.size ≤ i ∧ i < W.heap.size) (hw : Below w.heap.size w W) (x : Value) (hx : LN R W x B O) (hR : ∀ i, R i → i < W.heap.size ∧ ¬ P i) (hRw : ∀ i, i < w.heap.size → R i) (hST : ST B H O) (hn : O.length ≤ 200) (s : Stp) (hs : StW w s) (h1 : s.op.deps.length ≤ 60000) (h2 : s.op.gone.length ≤ 60000) (h3 : s.op.text.size ≤ 60000) (h4 : s.vec.length ≤ 60000) (hk : s.kind ≠ 1 ∧ s.kind ≠ 2 ∧ s.kind ≠ 3) :
    Calls Tryz.prog 11 #[.pointer (some ⟨b, 0, none⟩), x, stA s] W (StA W P R b (doB s B H) (doH s H) (doO s H O)) := by
  obtain ⟨kind, o, vl, vd, vg, vv⟩ := s
  obtain ⟨⟨⟨ad, cd, hd⟩, ⟨ag, cg, hg⟩, ⟨av, cv, hvv⟩⟩, rd, rg, rv, inn, kin⟩ := hs
  simp only at hd hg hvv rd rg rv inn kin h1 h2 h3 h4 hk
  subst hd hg hvv
  unfold doB doH doO stA
  simp only [if_neg hk.1, if_neg hk.2.2]
  have hk1 : (kind == 1) = false := by simpa using hk.1
  have hk2 : (kind == 2) = false := by simpa using hk.2.1
  have hk3 : (kind == 3) = false := by simpa using hk.2.2
  have hx0 := hx
  obtain ⟨ab, cb, vo, rfl, hB, qB, hO⟩ := hx
  obtain ⟨ao, co, rfl⟩ := rn_form hO
  have lB := ck_len hST.nb
  have zw := hw.size
  obtain ⟨X, hX⟩ : ∃ X, W.alloc (.cells #[.slice ab B.length cb, .slice ao O.length co] 35) = X := ⟨_, rfl⟩
  obtain ⟨Y, hY⟩ : ∃ Y, X.alloc (.cells #[.int .i64 kind, .int .i64 o.ds, .int .i64 o.dq, .slice ad o.deps.length cd, .int .i64 o.kind, .int .i64 o.it, .int .i64 o.is, .int .i64 o.rt, .int .i64 o.rs, .string o.text, .slice ag o.gone.length cg, .int .i64 o.site, .slice av vl.length cv] 47) = Y := ⟨_, rfl⟩
  obtain ⟨Z, hZ⟩ : ∃ Z, Y.alloc (.cells #[.slice none 0 0, .slice none 0 0] 35) = Z := ⟨_, rfl⟩
  have bX : Below W.heap.size W X := by rw [← hX]; exact ballc (Below.refl _ _) _
  have bY : Below X.heap.size X Y := by rw [← hY]; exact ballc (Below.refl _ _) _
  have bZ : Below Y.heap.size Y Z := by rw [← hZ]; exact ballc (Below.refl _ _) _
  have xX : Bx X W.heap.size 35 #[.slice ab B.length cb, .slice ao O.length co] := by rw [← hX]; exact Bx.new W _ _
  have yY : Bx Y X.heap.size 47 #[.int .i64 kind, .int .i64 o.ds, .int .i64 o.dq, .slice ad o.deps.length cd, .int .i64 o.kind, .int .i64 o.it, .int .i64 o.is, .int .i64 o.rt, .int .i64 o.rs, .string o.text, .slice ag o.gone.length cg, .int .i64 o.site, .slice av vl.length cv] := by rw [← hY]; exact Bx.new X _ _
  have zZ : Bx Z Y.heap.size 35 #[.slice none 0 0, .slice none 0 0] := by rw [← hZ]; exact Bx.new Y _ _
  have wX : W.heap.size < X.heap.size := xX.lt
  have XY : X.heap.size < Y.heap.size := yY.lt
  have YZ : Y.heap.size < Z.heap.size := zZ.lt
  have bW := bnext (bnext bX bY) bZ
  have yZ := yY.below bZ
  obtain ⟨a1, c1, W1, gv, cm, W2, hap1, hap2, hm, b1, b2⟩ := mark_row Z av cv vl ((rv.below hw).below bW) (by omega)
  have sf2 : SF W2 W.heap.size X.heap.size Y.heap.size Z.heap.size (.slice ab B.length cb) (.slice ao O.length co) #[.int .i64 kind, .int .i64 o.ds, .int .i64 o.dq, .slice ad o.deps.length cd, .int .i64 o.kind, .int .i64 o.it, .int .i64 o.is, .int .i64 o.rt, .int .i64 o.rs, .string o.text, .slice ag o.gone.length cg, .int .i64 o.site, .slice av vl.length cv] vl gv cm := ⟨((xX.below bY).below bZ).below b2, yZ.below b2, zZ.below b2, hm⟩
  have mcap := hm.cap
  have mlo := hm.lo
  have hsl := fun W n => sl_toVt W (some ⟨gv, 0, none⟩) n cm vl.length (by omega)
  have bW2 := bnext bW b2
  have z2 := b2.size
  have k12 := yZ.cell 12 _ rfl
  have kl := yZ.lt
  have j0 := sf2.y.cell 0 _ rfl
  have j12 := sf2.y.cell 12 _ rfl
  have jl := sf2.y.lt
  replace hap1 := hide hap1
  replace hap2 := hide hap2
  have T2 : Hid (TS w W W2 P P R W2.heap.size b (.agg #[.slice ab B.length cb, .slice ao O.length co]) B H O) := hide ⟨h.below bW2, (hx0.below bW2).mono (fun i _ q => .inl q), Kp.of_below bW2, fun i p => ⟨.inl p, by have := (hP i p).2; omega⟩, hR, bW2.size, Nat.le_refl _⟩
  have HG : Hid ((W.heap.size ≤ gv ∧ gv < W2.heap.size ∧ ¬ P gv) ∧ (W.heap.size ≤ Y.heap.size ∧ Y.heap.size < W2.heap.size ∧ ¬ P Y.heap.size)) := hide ⟨⟨by omega, mlo.2, fun p => by have := (hP _ p).2; omega⟩, by omega, by omega, fun p => by have := (hP _ p).2; omega⟩
  have RV := hide rv
  have BW := bnext hw bW2
  have SF2 := hide sf2
  clear h hx0 hB qB hO hR hRw hST hP rd rg inn kin bX bY bZ xX yY zZ bW yZ hm b1 b2 sf2 bW2 hw hk
  go_enter Tryz.func11, Tryz.ntmps11
  have HVs := hide (vectors_in vl vl _ _ W2 (unhide SF2).m.ri ((unhide RV).below BW) (by omega) (by omega))
  rw [decide_eq_true rfl] at HVs
  have e12 := (unhide SF2).y.cell 12 _ rfl
  have el := (unhide SF2).y.lt
  clear BW rv
  go_wp2_with (at_builtin; first | (have H1 := hap1; clear hap1; refine wpList_append_eq rfl _ _ 23 rfl _ _ _ _ rfl rfl (unhide H1) ?_; clear H1) | (have H2 := hap2; clear hap2; refine wpList_append_eq rfl _ _ 23 rfl _ _ _ _ rfl rfl (unhide H2) ?_; clear H2))
  refine (unhide HVs).mono ?_
  rintro r W9 ⟨rfl, nd9, hW9⟩
  have hb9 : Below W2.heap.size W2 W9 := by rw [hW9]; exact bdrew (Below.refl _ _) _
  have S9 := hide ((unhide SF2).below hb9)
  have B9 := hide hb9
  have f12 := (unhide S9).y.cell 12 _ rfl
  have fl := (unhide S9).y.lt
  obtain ⟨m0, m1⟩ := (unhide S9).m.md
  have ml := (unhide S9).m.lo.2
  have XM : Hid (OwX W9 28 2 (.slice (some ⟨gv, 0, none⟩) (vl.length + 1) cm) (vl.length + 1)) := hide (OwX.of (unhide S9).m)
  have G9 : Hid (Kp (fun i => i = gv) W9 W9 ∧ SS W9 W9) := hide ⟨Kp.refl _ _, SS.refl _⟩
  have i1 : (vl.length : Int) < (vl.length : Int) + 1 := by omega
  clear HVs hW9 hb9 e12 el
  go_wp2
  clear f12 fl m0 m1 ml i1
  obtain ⟨LV, hLV⟩ : ∃ L, vl.length = L := ⟨_, rfl⟩
  rw [hLV] at XM h4 ⊢
  replace hLV := hide hLV
  go_loopw [20] (fun iv wr => ∃ i : Nat, iv = .int .i64 (i : Nat) ∧ i ≤ LV + 1 ∧ Hid (Kp (fun i => i = gv) W9 wr ∧ SS W9 wr)) (fun iv _ => LV + 1 - (RowKit.intOf iv).toNat)
  case atStart => exact ⟨0, rfl, by omega, G9⟩
  case round =>
    clear G9
    obtain ⟨i, rfl, hi, G9⟩ := hrel
    by_cases hlt : i < LV + 1
    · have hlt' : (i : Int) < (LV : Int) + 1 := by omega
      obtain ⟨g, hge, l0, fz, cc, _⟩ := ((unhide XM).ss (unhide G9).2).at (by omega)
      simp only [Option.some.injEq, Addr.mk.injEq, and_true] at hge
      subst hge
      obtain ⟨y0, d0⟩ := cc (i * 2) (by omega)
      obtain ⟨y1, d1⟩ := cc (i * 2 + 1) (by omega)
      have f0 := fz (i * 2)
      have f1 := fz (i * 2 + 1)
      have G10 : Hid (Kp (fun i => i = gv) W9 ((wr.setCell ⟨gv, i * 2, none⟩ (.int .i64 1)).setCell ⟨gv, i * 2 + 1, none⟩ (.int .i64 1)) ∧ SS W9 ((wr.setCell ⟨gv, i * 2, none⟩ (.int .i64 1)).setCell ⟨gv, i * 2 + 1, none⟩ (.int .i64 1))) :=
        hide ⟨((unhide G9).1.trans (Kp.set (N := fun k => k = gv) _ _ _ rfl) (fun i e => .inl e)).trans (Kp.set (N := fun k => k = gv) _ _ _ rfl) (fun i e => .inl e), ((unhide G9).2.trans (SS.set _ _ _ _)).trans (SS.set _ _ _ _)⟩
      clear G9 fz cc
      go_wp2
      go_roundw
      case rel => exact ⟨i + 1, by go_num, by omega, G10⟩
      case measure => simp [RowKit.intOf]; omega
    · have hlt' : ¬ (i : Int) < (LV : Int) + 1 := by omega
      have xr := (unhide S9).x.kp (unhide G9).1 (by omega)
      have zr := (unhide S9).z.kp (unhide G9).1 (by omega)
      have c0 := xr.cell 0 _ rfl
      have c1 := xr.cell 1 _ rfl
      have cl := xr.lt
      have d0 := zr.cell 0 _ rfl
      have d1 := zr.cell 1 _ rfl
      have f0 := zr.frozen 0
      have f1 := zr.frozen 1
      have dl := zr.lt
      have z2 := hide (box2 zr (.slice ab B.length cb) (.slice ao O.length co))
      have kf : Hid (Kp (fun i => i = gv ∨ i = Y.heap.size) W2 ((wr.setCell ⟨Y.heap.size, 0, none⟩ (.slice ab B.length cb)).setCell ⟨Y.heap.size, 1, none⟩ (.slice ao O.length co))) := hide (((Kp.of_below (unhide B9)).trans (unhide G9).1 (fun i e => .inl (.inl e))).trans (kp2 wr Y.heap.size (.slice ab B.length cb) (.slice ao O.length co)) (fun i e => .inl (.inr e)))
      clear xr zr G9 XM
      go_wp2
      refine bodyPost_ret (results_ct rfl _ _ (Y.heap.size) _ _ _ _ rfl (unhide z2) Tryz.underlying35 rfl sizeLg) rfl ?_
      exact TS.fin (unhide T2) (unhide kf) (unhide HG).1 (unhide HG).2

end Go.Proofs.YtijjoikeceechaaGreat

/-
  The law's step, alike and all.
-/
set_option linter.unusedSimpArgs false
set_option linter.unusedVariables false
namespace Go.Proofs.YtijjoikeceechaaGreat
open Go.RowKit Go.Lib

theorem step_in {w W : World} {P R : Nat → Prop} {b : Nat} {B H : List (Int × Int)} {O : List Opn} (h : LL P W b B H O) (hP : ∀ i, P i → w.heap.size ≤ i ∧ i < W.heap.size) (hw : Below w.heap.size w W) (x : Value) (hx : LN R W x B O) (hR : ∀ i, R i → i < W.heap.size ∧ ¬ P i) (hRw : ∀ i, i < w.heap.size → R i) (hST : ST B H O) (hn : O.length ≤ 200) (s : Stp) (hs : StW w s) (h1 : s.op.deps.length ≤ 60000) (h2 : s.op.gone.length ≤ 60000) (h3 : s.op.text.size ≤ 60000) (h4 : s.vec.length ≤ 60000) :
    Calls Tryz.prog 11 #[.pointer (some ⟨b, 0, none⟩), x, stA s] W (StA W P R b (doB s B H) (doH s H) (doO s H O)) := by
  by_cases k1 : s.kind = 1
  · exact step_add h hP hw x hx hR hRw hST hn s hs h1 h2 h3 h4 k1
  by_cases k2 : s.kind = 2
  · exact step_beyond h hP hw x hx hR hRw hST hn s hs h1 h2 h3 h4 k2
  by_cases k3 : s.kind = 3
  · exact step_cut h hP hw x hx hR hRw hST hn s hs h1 h2 h3 h4 k3
  · exact step_else h hP hw x hx hR hRw hST hn s hs h1 h2 h3 h4 ⟨k1, k2, k3⟩

theorem vect_in {l : List (Int × Int)} {V : World} {u u' : Value} (h : RI V u l) (h' : RI V u' l) (hl : l.length ≤ 1000000) : Calls Tryz.prog 10 #[u, u'] V fun e V' => e = .returned (.bool true) ∧ Below V.heap.size V V' := by
  refine (vectors_in l l _ _ V h h' (by omega) (by omega)).mono ?_
  rintro e V' ⟨rfl, n, rfl⟩
  exact ⟨by rw [decide_eq_true rfl], bdrew (Below.refl _ _) _⟩

set_option maxRecDepth 100000 in
set_option maxHeartbeats 8000000 in
theorem alike_in {W : World} {P R : Nat → Prop} {b : Nat} {B H : List (Int × Int)} {O : List Opn} (h : LL P W b B H O) (x : Value) (hx : LN R W x B O) (hST : ST B H O) (hn : O.length ≤ 200) :
    Calls Tryz.prog 12 #[.pointer (some ⟨b, 0, none⟩), x] W fun e W' => e = .returned (.bool true) ∧ Below W.heap.size W W' := by
  obtain ⟨ab, cb, vo, rfl, hB, qB, hO⟩ := hx
  obtain ⟨ao, co, rfl⟩ := rn_form hO
  have lB := ck_len hST.nb
  have lH := ck_len hST.nh
  obtain ⟨X, hX⟩ : ∃ X, W.alloc (.cells #[.slice ab B.length cb, .slice ao O.length co] 35) = X := ⟨_, rfl⟩
  have bX : Below W.heap.size W X := by rw [← hX]; exact ballc (Below.refl _ _) _
  have xX : Bx X W.heap.size 35 #[.slice ab B.length cb, .slice ao O.length co] := by rw [← hX]; exact Bx.new W _ _
  have c0 := xX.cell 0 _ rfl
  have c1 := xX.cell 1 _ rfl
  have hb0 : Hid (Below X.heap.size X X.drew) := hide (Below.refl _ _).drew
  have HBa := hide (fun (V : World) (hb : Hid (Below X.heap.size X V)) => Base_in ((h.below bX).below (unhide hb)))
  have HVe := hide (fun (V : World) (hb : Hid (Below X.heap.size X V)) => Vector_in ((h.below bX).below (unhide hb)))
  have HLe := hide (fun (V : World) (hb : Hid (Below X.heap.size X V)) => Len_in ((h.below bX).below (unhide hb)))
  have HRV := hide (fun (V : World) (hb : Hid (Below X.heap.size X V)) => refVector_in _ _ B O V ((hB.below bX).below (unhide hb)) ((hO.below bX).below (unhide hb)) (by omega) (by omega))
  rw [hST.rvec] at HRV
  have HV1 := hide (fun (V : World) (u : Value) (hu : RI V u B) (hb : Hid (Below X.heap.size X V)) => vect_in hu ((hB.below bX).below (unhide hb)) (by omega))
  have HV2 := hide (fun (V : World) (u u' : Value) (hu : RI V u H) (hu' : RI V u' H) => vect_in hu hu' (by omega))
  have B0 := hide bX
  clear h hB qB hO hST bX xX
  go_enter Tryz.func12, Tryz.ntmps12
  go_wp2_with fail
  go_region_held3 (fun w' => w'.cell? ⟨W.heap.size, 0, none⟩ = some (.slice ab B.length cb) ∧ w'.cell? ⟨W.heap.size, 1, none⟩ = some (.slice ao O.length co) ∧ Hid (Below X.heap.size X w'))
    (first
      | (exact ⟨c0, c1, hb0⟩)
      | (go_split_ands
         exact ⟨cell_below (by assumption) hb, cell_below (by assumption) hb, hide (bnext (unhide (by assumption)) hb)⟩)
      | go_keep)
    (first
      | (go_split_ands; go_at_call 25; refine (unhide HBa _ (by assumption)).mono ?_; rintro e w1 ⟨v1, rfl, o1, hb⟩; obtain ⟨a1, c1, hv1⟩ := o1.form; subst hv1; have r1 := hide o1.row; clear o1)
      | (go_split_ands; go_at_call 36; refine (unhide HVe _ (by assumption)).mono ?_; rintro e w3 ⟨v3, rfl, o3, hb⟩; obtain ⟨a3, c3, hv3⟩ := o3.form; subst hv3; have r3 := hide o3.row; clear o3)
      | (go_split_ands; go_at_call 24; refine (unhide HLe _ (by assumption)).mono ?_; rintro e w6 ⟨rfl, hw6⟩; subst hw6; have hb := Below.refl w5.heap.size w5)
      | (go_split_ands; go_at_call 37; refine (unhide HRV _ (by assumption)).mono ?_; rintro e w4 ⟨v4, rfl, o4, hb⟩; obtain ⟨a4, c4, hv4⟩ := o4.form; subst hv4; have r4 := hide o4.row; have r3' := hide ((unhide r3).below hb); clear o4)
      | (go_split_ands; go_at_call 10; refine (unhide HV2 _ _ _ (unhide r3') (unhide r4)).mono ?_; rintro e w5 ⟨rfl, hb⟩)
      | (go_split_ands; go_at_call 10; refine (unhide HV1 _ _ (unhide r1) (by assumption)).mono ?_; rintro e w2 ⟨rfl, hb⟩))
  go_split_ands
  have HB := hide (bnext (unhide B0) (unhide (by assumption : Hid (Below X.heap.size X _))))
  go_wp2
  go_ret
  exact ⟨rfl, unhide HB⟩

set_option maxRecDepth 100000 in
set_option maxHeartbeats 8000000 in
theorem allP_in {w W : World} {P R : Nat → Prop} {b : Nat} {B H : List (Int × Int)} {O : List Opn} (h : LL P W b B H O) (hP : ∀ i, P i → w.heap.size ≤ i ∧ i < W.heap.size) (hw : Below w.heap.size w W) (x : Value) (hx : LN R W x B O) (hST : ST B H O) (hn : O.length ≤ 200) :
    Calls Tryz.prog 13 #[.pointer (some ⟨b, 0, none⟩), x] W fun e W' => e = .returned (.bool true) ∧ Below W.heap.size W W' := by
  have hx0 := hx
  obtain ⟨ab, cb, vo, rfl, hB, qB, hO⟩ := hx
  obtain ⟨ao, co, rfl⟩ := rn_form hO
  obtain ⟨X, hX⟩ : ∃ X, W.alloc (.cells #[.slice ab B.length cb, .slice ao O.length co] 35) = X := ⟨_, rfl⟩
  have bX : Below W.heap.size W X := by rw [← hX]; exact ballc (Below.refl _ _) _
  have xX : Bx X W.heap.size 35 #[.slice ab B.length cb, .slice ao O.length co] := by rw [← hX]; exact Bx.new W _ _
  have c0 := xX.cell 0 _ rfl
  have c1 := xX.cell 1 _ rfl
  have hb0 : Hid (Below X.heap.size X X.drew) := hide (Below.refl _ _).drew
  have HAl := hide (fun (V : World) (hb : Hid (Below X.heap.size X V)) => alike_in ((h.below bX).below (unhide hb)) _ ((hx0.below bX).below (unhide hb)) hST hn)
  have HBe := hide (fun (V : World) (hb : Hid (Below X.heap.size X V)) => KBeyond_in (w := w) (W := V) (b := b) (base := B) (hv := H) (os := O) ⟨P, (h.below bX).below (unhide hb), fun i p => ⟨(hP i p).1, by have := (hP i p).2; have := bX.size; have := (unhide hb).size; omega⟩, bnext (bnext hw bX) (unhide hb)⟩ (by omega) none 0 0 [] (.inl ⟨rfl, _, _, rfl⟩) (by simp))
  rw [bynd_nil] at HBe
  have HOp := hide (fun (V : World) (u : Value) (P' : Nat → Prop) (hu : RN P' V u O) (hb : Hid (Below X.heap.size X V)) => ops2_in u _ O hu ((hO.below bX).below (unhide hb)) (by omega))
  have B0 := hide bX
  have n2 : (O.length : Int) < 201 := by omega
  unfold itV at HBe
  clear h hB qB hO hST bX xX hx0 hP hw
  go_enter Tryz.func13, Tryz.ntmps13
  go_wp2_with fail
  go_region_held3 (fun w' => w'.cell? ⟨W.heap.size, 0, none⟩ = some (.slice ab B.length cb) ∧ w'.cell? ⟨W.heap.size, 1, none⟩ = some (.slice ao O.length co) ∧ Hid (Below X.heap.size X w'))
    (first
      | (exact ⟨c0, c1, hb0⟩)
      | (go_split_ands
         exact ⟨cell_below (by assumption) hb, cell_below (by assumption) hb, hide (bnext (unhide (by assumption)) hb)⟩)
      | go_keep)
    (first
      | (go_split_ands; go_at_call 12; refine (unhide HAl _ (by assumption)).mono ?_; rintro e w1 ⟨rfl, hb⟩)
      | (go_split_ands; go_at_call 15; refine (unhide HBe _ (by assumption)).mono ?_; rintro e w2 ⟨rfl, hit, hb⟩; have HRe := hide (Krest_in hit 201 n2); clear hit; unfold itV at HRe)
      | (go_split_ands; go_at_call 20; refine (unhide HRe).mono ?_; rintro e w3 ⟨a3, c3, rfl, r3, hb⟩; have R3 := hide r3.rn; clear r3)
      | (go_split_ands; go_at_call 19; refine (unhide HOp _ _ _ (unhide R3) (by assumption)).mono ?_; rintro e w4 ⟨rfl, hb⟩))
  go_split_ands
  have HB := hide (bnext (unhide B0) (unhide (by assumption : Hid (Below X.heap.size X _))))
  go_wp2
  go_ret
  exact ⟨rfl, unhide HB⟩

end Go.Proofs.YtijjoikeceechaaGreat

/-
  A log and the document's, through a script.
-/
set_option linter.unusedSimpArgs false
set_option linter.unusedVariables false
namespace Go.Proofs.YtijjoikeceechaaGreat
open Go.RowKit Go.Lib

/-- a log, and the document's in a variable -/
structure GS (w W : World) (b bx : Nat) (P R : Nat → Prop) (x0 x1 : Value) (B H : List (Int × Int)) (O : List Opn) : Prop where
  ll : LL P W b B H O
  pp : ∀ i, P i → w.heap.size ≤ i ∧ i < W.heap.size
  bel : Below w.heap.size w W
  ln : LN R W (.agg #[x0, x1]) B O
  rr : ∀ i, R i → i < W.heap.size ∧ ¬ P i
  rw' : ∀ i, i < w.heap.size → R i
  st : ST B H O
  bx' : Bx W bx 35 #[x0, x1]
  np : ¬ P bx
  nr : ¬ R bx
theorem GS.below {w W W' : World} {b bx : Nat} {P R : Nat → Prop} {x0 x1 : Value} {B H : List (Int × Int)} {O : List Opn} (h : GS w W b bx P R x0 x1 B H O) (hb : Below W.heap.size W W') : GS w W' b bx P R x0 x1 B H O :=
  ⟨h.ll.below hb, fun i p => ⟨(h.pp i p).1, by have := (h.pp i p).2; have := hb.size; omega⟩, bnext h.bel hb, h.ln.below hb, fun i q => ⟨by have := (h.rr i q).1; have := hb.size; omega, (h.rr i q).2⟩, h.rw', h.st, h.bx'.below hb, h.np, h.nr⟩
theorem LN.cells {Q : Nat → Prop} {W : World} {x : Value} {B : List (Int × Int)} {O : List Opn} (h : LN Q W x B O) : ∃ a c a' c', x = .agg #[.slice a B.length c, .slice a' O.length c'] := by
  obtain ⟨ab, cb, vo, rfl, _, _, h3⟩ := h
  obtain ⟨ao, co, rfl⟩ := rn_form h3
  exact ⟨_, _, _, _, rfl⟩
/-- a step was made, its answer is kept in the variable -/
theorem GS.step {w W W' : World} {b bx : Nat} {P R P' : Nat → Prop} {x0 x1 y0 y1 : Value} {B H B' H' : List (Int × Int)} {O O' : List Opn} (h : GS w W b bx P R x0 x1 B H O) (hl : LL P' W' b B' H' O') (hp : ∀ i, P' i → (P i ∨ W.heap.size ≤ i) ∧ i < W'.heap.size) (hn : LN (fun i => R i ∨ (W.heap.size ≤ i ∧ ¬ P' i)) W' (.agg #[y0, y1]) B' O') (k : Kp P W W') (hs : ST B' H' O') :
    GS w ((W'.setCell ⟨bx, 0, none⟩ y0).setCell ⟨bx, 1, none⟩ y1) b bx P' (fun i => (R i ∨ (W.heap.size ≤ i ∧ ¬ P' i)) ∧ i < W'.heap.size) y0 y1 B' H' O' := by
  have hx := h.bx'.lt
  have hz := k.size
  have bw := h.bel.size
  have hw0 : w.heap.size ≤ bx := by
    rcases Nat.lt_or_ge bx w.heap.size with e | e
    · exact absurd (h.rw' bx e) h.nr
    · exact e
  have kk := kp2 W' bx y0 y1
  have np : ¬ P' bx := fun p => by
    rcases (hp bx p).1 with q | q
    · exact h.np q
    · omega
  have zk := kk.size
  refine ⟨hl.kp kk (fun i e p => by subst e; exact np p), fun i p => ⟨?_, by have := (hp i p).2; omega⟩, kk.below (k.below h.bel (fun i p => (h.pp i p).1)) (fun i e => by omega), ((hn.mono (fun i hi q => ⟨q, hi⟩)).kp kk (fun i e q => ?_)), fun i q => ⟨by have := q.2; omega, fun p => ?_⟩, fun i hi => ⟨.inl (h.rw' i hi), by omega⟩, hs, box2 (h.bx'.kp k h.np) y0 y1, np, fun q => ?_⟩
  · rcases (hp i p).1 with q | q
    · exact (h.pp i q).1
    · omega
  · subst e
    rcases q.1 with q | q
    · exact h.nr q
    · omega
  · rcases q.1 with q | q
    · rcases (hp i p).1 with p | p
      · exact (h.rr i q).2 p
      · have := (h.rr i q).1; omega
    · exact q.2 p
  · rcases q.1 with q | q
    · exact h.nr q
    · omega

theorem GS.round {w W V W7 F : World} {b bx : Nat} {P R P7 N : Nat → Prop} {x0 x1 y0 y1 : Value} {B H B' H' : List (Int × Int)} {O O' : List Opn} (h : GS w W b bx P R x0 x1 B H O) (hV : Below W.heap.size W V) (hl : LL P7 W7 b B' H' O') (hp : ∀ i, P7 i → (P i ∨ V.heap.size ≤ i) ∧ i < W7.heap.size) (hn : LN (fun i => R i ∨ (V.heap.size ≤ i ∧ ¬ P7 i)) W7 (.agg #[y0, y1]) B' O') (k : Kp P V W7) (hs : ST B' H' O') (kF : Kp N W7 F) (hN : ∀ i, N i → W.heap.size ≤ i ∧ ¬ P7 i ∧ (V.heap.size ≤ i → W7.heap.size ≤ i)) :
    GS w ((F.setCell ⟨bx, 0, none⟩ y0).setCell ⟨bx, 1, none⟩ y1) b bx P7 (fun i => (R i ∨ (W.heap.size ≤ i ∧ ¬ P7 i)) ∧ i < F.heap.size) y0 y1 B' H' O' ∧ Bx F bx 35 #[x0, x1] := by
  have zV := hV.size
  have zF := kF.size
  have kk : Kp P W F := ((Kp.of_below hV).trans k (fun i p => .inl p)).trans kF (fun i e => .inr (hN i e).1)
  refine ⟨h.step (hl.kp kF (fun i e => (hN i e).2.1)) (fun i p => ⟨(hp i p).1.imp id (fun e => by omega), by have := (hp i p).2; omega⟩) (((hn.mono (Q' := fun i => (R i ∨ (V.heap.size ≤ i ∧ ¬ P7 i)) ∧ i < W7.heap.size) (fun i hi q => ⟨q, hi⟩)).kp kF (fun i e q => ?_)).mono (fun i _ q => q.1.imp id (fun e => ⟨by omega, e.2⟩))) kk hs, h.bx'.kp kk h.np⟩
  obtain ⟨n1, n2, n3⟩ := hN i e
  rcases q.1 with q' | q'
  · have := (h.rr i q').1; omega
  · have := n3 q'.1; have := q.2; omega

end Go.Proofs.YtijjoikeceechaaGreat

/-
  Two logs, each with the document's.
-/
set_option linter.unusedSimpArgs false
set_option linter.unusedVariables false
namespace Go.Proofs.YtijjoikeceechaaGreat
open Go.RowKit Go.Lib

theorem GS.kp {w W W' : World} {b bx : Nat} {P R N : Nat → Prop} {x0 x1 : Value} {B H : List (Int × Int)} {O : List Opn} (h : GS w W b bx P R x0 x1 B H O) (k : Kp N W W') (hn : ∀ i, N i → w.heap.size ≤ i ∧ ¬ P i ∧ ¬ R i ∧ i ≠ bx) : GS w W' b bx P R x0 x1 B H O :=
  ⟨h.ll.kp k (fun i e => (hn i e).2.1), fun i p => ⟨(h.pp i p).1, by have := (h.pp i p).2; have := k.size; omega⟩, k.below h.bel (fun i e => (hn i e).1), h.ln.kp k (fun i e => (hn i e).2.2.1), fun i q => ⟨by have := (h.rr i q).1; have := k.size; omega, (h.rr i q).2⟩, h.rw', h.st, h.bx'.kp k (fun e => (hn _ e).2.2.2 rfl), h.np, h.nr⟩
/-- what is apart -/
structure DJ (P1 R1 P2 R2 : Nat → Prop) (bx1 bx2 : Nat) : Prop where
  pp : ∀ i, P1 i → ¬ P2 i
  pr : ∀ i, P1 i → ¬ R2 i
  rp : ∀ i, R1 i → ¬ P2 i
  xp : ¬ P2 bx1
  xr : ¬ R2 bx1
  yp : ¬ P1 bx2
  yr : ¬ R1 bx2
  xy : bx1 ≠ bx2
theorem DJ.swap {P1 R1 P2 R2 : Nat → Prop} {bx1 bx2 : Nat} (h : DJ P1 R1 P2 R2 bx1 bx2) : DJ P2 R2 P1 R1 bx2 bx1 :=
  ⟨fun i p q => h.pp i q p, fun i p q => h.rp i q p, fun i p q => h.pr i q p, h.yp, h.yr, h.xp, h.xr, fun e => h.xy e.symm⟩
/-- both -/
def G2 (w W : World) (b1 bx1 : Nat) (B1 H1 : List (Int × Int)) (O1 : List Opn) (b2 bx2 : Nat) (B2 H2 : List (Int × Int)) (O2 : List Opn) : Prop :=
  ∃ P1 R1 P2 R2 x0 x1 y0 y1, GS w W b1 bx1 P1 R1 x0 x1 B1 H1 O1 ∧ GS w W b2 bx2 P2 R2 y0 y1 B2 H2 O2 ∧ DJ P1 R1 P2 R2 bx1 bx2
variable {w W W' : World} {b1 bx1 : Nat} {B1 H1 : List (Int × Int)} {O1 : List Opn} {b2 bx2 : Nat} {B2 H2 : List (Int × Int)} {O2 : List Opn}
theorem G2.swap (h : G2 w W b1 bx1 B1 H1 O1 b2 bx2 B2 H2 O2) : G2 w W b2 bx2 B2 H2 O2 b1 bx1 B1 H1 O1 := by
  obtain ⟨P1, R1, P2, R2, x0, x1, y0, y1, g1, g2, d⟩ := h
  exact ⟨P2, R2, P1, R1, y0, y1, x0, x1, g2, g1, d.swap⟩
theorem G2.below (h : G2 w W b1 bx1 B1 H1 O1 b2 bx2 B2 H2 O2) (hb : Below W.heap.size W W') : G2 w W' b1 bx1 B1 H1 O1 b2 bx2 B2 H2 O2 := by
  obtain ⟨P1, R1, P2, R2, x0, x1, y0, y1, g1, g2, d⟩ := h
  exact ⟨P1, R1, P2, R2, x0, x1, y0, y1, g1.below hb, g2.below hb, d⟩
theorem G2.bel (h : G2 w W b1 bx1 B1 H1 O1 b2 bx2 B2 H2 O2) : Below w.heap.size w W := by
  obtain ⟨P1, R1, P2, R2, x0, x1, y0, y1, g1, g2, d⟩ := h
  exact g1.bel
/-- what is in the first one's variable -/
theorem G2.box (h : G2 w W b1 bx1 B1 H1 O1 b2 bx2 B2 H2 O2) : ∃ a c a' c', Bx W bx1 35 #[.slice a B1.length c, .slice a' O1.length c'] := by
  obtain ⟨P1, R1, P2, R2, x0, x1, y0, y1, g1, g2, d⟩ := h
  obtain ⟨a, c, a', c', e⟩ := g1.ln.cells
  simp only [Value.agg.injEq, Array.mk.injEq, List.cons.injEq, and_true] at e
  obtain ⟨rfl, rfl⟩ := e
  exact ⟨a, c, a', c', g1.bx'⟩
/-- a step of the first one -/
theorem G2.step_in (h : G2 w W b1 bx1 B1 H1 O1 b2 bx2 B2 H2 O2) (x0 x1 : Value) (hx : Bx W bx1 35 #[x0, x1]) (hn : O1.length ≤ 200) (s : Stp) (hs : StW w s) (h1 : s.op.deps.length ≤ 60000) (h2 : s.op.gone.length ≤ 60000) (h3 : s.op.text.size ≤ 60000) (h4 : s.vec.length ≤ 60000) {V : World} (hV : Below W.heap.size W V) :
    Calls Tryz.prog 11 #[.pointer (some ⟨b1, 0, none⟩), .agg #[x0, x1], stA s] V fun e W' => ∃ a c a' c', e = .returned (.tuple #[.agg #[.slice a (doB s B1 H1).length c, .slice a' (doO s H1 O1).length c'], .bool true]) ∧ Bx W' bx1 35 #[x0, x1] ∧ G2 w ((W'.setCell ⟨bx1, 0, none⟩ (.slice a (doB s B1 H1).length c)).setCell ⟨bx1, 1, none⟩ (.slice a' (doO s H1 O1).length c')) b1 bx1 (doB s B1 H1) (doH s H1) (doO s H1 O1) b2 bx2 B2 H2 O2 := by
  obtain ⟨P1, R1, P2, R2, u0, u1, y0, y1, g1, g2, d⟩ := h
  have e : W.heap[bx1]? = some (.cells #[x0, x1] 35 (0, 0)) := hx
  have e' : W.heap[bx1]? = some (.cells #[u0, u1] 35 (0, 0)) := g1.bx'
  rw [e] at e'
  simp only [Option.some.injEq, Obj.cells.injEq, Array.mk.injEq, List.cons.injEq, and_true] at e'
  obtain ⟨rfl, rfl⟩ := e'
  have gV := g1.below hV
  refine (Go.Proofs.YtijjoikeceechaaGreat.step_in gV.ll gV.pp gV.bel _ gV.ln gV.rr gV.rw' gV.st hn s hs h1 h2 h3 h4).mono ?_
  rintro r W7 ⟨x7, P7, rfl, l7, p7, n7, k7⟩
  obtain ⟨a, c, a', c', rfl⟩ := n7.cells
  have kF : Kp (fun _ => False) W7 W7 := Kp.refl _ _
  obtain ⟨gn, bF⟩ := GS.round g1 hV l7 p7 n7 k7 (g1.st.do s) kF (fun i e => e.elim)
  have zV := hV.size
  have z7 := k7.size
  have kb : Kp (fun i => P1 i ∨ i = bx1) W ((W7.setCell ⟨bx1, 0, none⟩ (.slice a (doB s B1 H1).length c)).setCell ⟨bx1, 1, none⟩ (.slice a' (doO s H1 O1).length c')) := (((Kp.of_below hV).trans k7 (fun i p => .inl (.inl p))).trans (kp2 W7 bx1 _ _) (fun i e => .inl (.inr e)))
  have w1 : w.heap.size ≤ bx1 := by
    rcases Nat.lt_or_ge bx1 w.heap.size with e | e
    · exact absurd (g1.rw' bx1 e) g1.nr
    · exact e
  have g2n := g2.kp kb (fun i e => by
    rcases e with p | rfl
    · exact ⟨(g1.pp i p).1, d.pp i p, d.pr i p, fun e => d.yp (by rw [← e]; exact p)⟩
    · exact ⟨w1, d.xp, d.xr, d.xy⟩)
  have q2 : ∀ i, P2 i → i < W.heap.size := fun i p => (g2.pp i p).2
  have r2 : ∀ i, R2 i → i < W.heap.size := fun i p => (g2.rr i p).1
  have l2 := g2.bx'.lt
  have l1 := g1.bx'.lt
  refine ⟨a, c, a', c', rfl, bF, ⟨P7, _, P2, R2, _, _, y0, y1, gn, g2n, ⟨fun i p q => ?_, fun i p q => ?_, fun i p q => ?_, d.xp, d.xr, fun p => ?_, fun q => ?_, d.xy⟩⟩⟩
  · rcases (p7 i p).1 with p | p
    · exact d.pp i p q
    · have := q2 i q; omega
  · rcases (p7 i p).1 with p | p
    · exact d.pr i p q
    · have := r2 i q; omega
  · rcases p.1 with p | p
    · exact d.rp i p q
    · have := q2 i q; have := p.1; omega
  · rcases (p7 _ p).1 with p | p
    · exact d.yp p
    · omega
  · rcases q.1 with q | q
    · exact d.yr q
    · have := q.1; omega
theorem G2.alike_in (h : G2 w W b1 bx1 B1 H1 O1 b2 bx2 B2 H2 O2) (x0 x1 : Value) (hx : Bx W bx1 35 #[x0, x1]) (hn : O1.length ≤ 200) : Calls Tryz.prog 12 #[.pointer (some ⟨b1, 0, none⟩), .agg #[x0, x1]] W fun e W' => e = .returned (.bool true) ∧ Below W.heap.size W W' := by
  obtain ⟨P1, R1, P2, R2, u0, u1, y0, y1, g1, g2, d⟩ := h
  have e : W.heap[bx1]? = some (.cells #[x0, x1] 35 (0, 0)) := hx
  have e' : W.heap[bx1]? = some (.cells #[u0, u1] 35 (0, 0)) := g1.bx'
  rw [e] at e'
  simp only [Option.some.injEq, Obj.cells.injEq, Array.mk.injEq, List.cons.injEq, and_true] at e'
  obtain ⟨rfl, rfl⟩ := e'
  exact Go.Proofs.YtijjoikeceechaaGreat.alike_in g1.ll _ g1.ln g1.st hn
theorem G2.all_in (h : G2 w W b1 bx1 B1 H1 O1 b2 bx2 B2 H2 O2) (x0 x1 : Value) (hx : Bx W bx1 35 #[x0, x1]) (hn : O1.length ≤ 200) : Calls Tryz.prog 13 #[.pointer (some ⟨b1, 0, none⟩), .agg #[x0, x1]] W fun e W' => e = .returned (.bool true) ∧ Below W.heap.size W W' := by
  obtain ⟨P1, R1, P2, R2, u0, u1, y0, y1, g1, g2, d⟩ := h
  have e : W.heap[bx1]? = some (.cells #[x0, x1] 35 (0, 0)) := hx
  have e' : W.heap[bx1]? = some (.cells #[u0, u1] 35 (0, 0)) := g1.bx'
  rw [e] at e'
  simp only [Option.some.injEq, Obj.cells.injEq, Array.mk.injEq, List.cons.injEq, and_true] at e'
  obtain ⟨rfl, rfl⟩ := e'
  exact allP_in g1.ll g1.pp g1.bel _ g1.ln g1.st hn

end Go.Proofs.YtijjoikeceechaaGreat
