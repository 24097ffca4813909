/-
  The law's twin of an operation, and its spoil.
-/
import Derived.Test.YtijjoikeceechaaGreatZXLR4

set_option linter.unusedSimpArgs false
set_option linter.unusedVariables false
namespace Go.Proofs.YtijjoikeceechaaGreat
open Go.RowKit Go.Lib

theorem append_run (w : World) (ty : TypeId) (N : Nat) (v : Value) (l : List ((Int × Int) × Int)) (x y z : Int) (nb : Nat) (h : OwR w N v l) (hbx : Bx w nb 81 #[.int .i64 x, .int .i64 y, .int .i64 z]) (hN : N ≤ w.heap.size) (hl : l.length ≤ 1000000) :
    ∃ v' w', (Builtin.append_ #[43, 43] ty #[v, .slice (some ⟨nb, 0, none⟩) 1 1]).run Tryz.prog w = .ok v' w' ∧ OwR w' N v' (l ++ [((x, y), z)]) ∧ w.grownBy w' v.ownBlock := by
  obtain ⟨i0, hi, hz0, hz1, hz2⟩ := info_parts infoRu
  obtain ⟨v', w', h1, h2, h3, h4, h5⟩ := run_append_own_at (P := Tryz.prog) w N 43 ty 81 i0 _ 3 24 Tryz.underlying43 hi hz0 hz1 hz2 rfl (by decide) v l.length _ h ⟨nb, 0, none⟩ 1 1 [.int .i64 x, .int .i64 y, .int .i64 z] rfl (fun j u hu => by
    rw [Addr.add_lit, Nat.zero_add]
    exact hbx.cell j u (by rw [← hu]; simp)) (fun u hu => by simp at hu; rcases hu with rfl | rfl | rfl <;> rfl) (by unfold maxLen; omega) (by omega) (by first | omega | (simp; omega))
  refine ⟨v', w', h1, ?_, h3⟩
  unfold OwR
  rw [flat_append]
  simpa [show flat encR [((x, y), z)] = [.int .i64 x, .int .i64 y, .int .i64 z] from rfl] using h2

theorem sl_toVt (w : World) (a : Option Addr) (n c k : Nat) (hk : k ≤ c) :
    (Instr.sliceAt 23 (.slice a n c) none (some (.int .i64 (k : Nat))) none).run Tryz.prog w = .ok (.slice a k c) w := by
  obtain ⟨i0, hi, hz0, hz1, hz2⟩ := info_parts infoD
  have h1 : (k : Int) ≤ (c : Int) := by omega
  simp [Instr.sliceAt, Instr.slice, run_underlying Tryz.underlying23, sizeOf, typeInfo, hi, hz1, go_sem, h1, hk]
theorem sl_toRt (w : World) (a : Option Addr) (n c k : Nat) (hk : k ≤ c) :
    (Instr.sliceAt 43 (.slice a n c) none (some (.int .i64 (k : Nat))) none).run Tryz.prog w = .ok (.slice a k c) w := by
  obtain ⟨i0, hi, hz0, hz1, hz2⟩ := info_parts infoRu
  have h1 : (k : Int) ≤ (c : Int) := by omega
  simp [Instr.sliceAt, Instr.slice, run_underlying Tryz.underlying43, sizeOf, typeInfo, hi, hz1, go_sem, h1, hk]

/-- an operation's lists in rows of their own, a mark behind each -/
structure Tw (W : World) (B : Nat) (deps : List (Int × Int)) (gone : List ((Int × Int) × Int)) (gd cd gg cg : Nat) : Prop where
  d : W.ownsRow B 28 2 (.slice (some ⟨gd, 0, none⟩) (deps.length + 1) cd) (deps.length + 1) (flat encI (deps ++ [(77, 77)]))
  g : W.ownsRow B 81 3 (.slice (some ⟨gg, 0, none⟩) (gone.length + 1) cg) (gone.length + 1) (flat encR (gone ++ [((0, 0), 77)]))
theorem Tw.below {W W' : World} {B : Nat} {deps : List (Int × Int)} {gone : List ((Int × Int) × Int)} {gd cd gg cg : Nat} (h : Tw W B deps gone gd cd gg cg) (hb : Below W.heap.size W W') : Tw W' B deps gone gd cd gg cg :=
  ⟨owns_kp h.d (Kp.of_below (N := fun _ => False) hb) (fun _ _ e => e), owns_kp h.g (Kp.of_below (N := fun _ => False) hb) (fun _ _ e => e)⟩
theorem RC.take1 {W : World} {a : Option Addr} {n c : Nat} {C D : List Value} (h : RC W (.slice a (n + 1) c) (n + 1) C) (hD : ∀ (j : Nat) (x : Value), D[j]? = some x → C[j]? = some x) : RC W (.slice a n c) n D := by
  rcases h with ⟨h0, _⟩ | ⟨b, off, cap, e, h1, h2, h3⟩
  · omega
  · simp at e
    obtain ⟨rfl, rfl⟩ := e
    exact .inr ⟨b, off, c, rfl, by omega, h2, fun j x hx => h3 j x (hD j x hx)⟩
theorem Tw.ri {W : World} {B : Nat} {deps : List (Int × Int)} {gone : List ((Int × Int) × Int)} {gd cd gg cg : Nat} (h : Tw W B deps gone gd cd gg cg) : RI W (.slice (some ⟨gd, 0, none⟩) deps.length cd) deps :=
  RC.take1 (RC.of_owns h.d) (fun j x hx => by rw [flat_append]; exact (List.getElem?_append_left (List.getElem?_eq_some_iff.1 hx).1).trans hx)
theorem Tw.rr {W : World} {B : Nat} {deps : List (Int × Int)} {gone : List ((Int × Int) × Int)} {gd cd gg cg : Nat} (h : Tw W B deps gone gd cd gg cg) : RR W (.slice (some ⟨gg, 0, none⟩) gone.length cg) gone :=
  RC.take1 (RC.of_owns h.g) (fun j x hx => by rw [flat_append]; exact (List.getElem?_append_left (List.getElem?_eq_some_iff.1 hx).1).trans hx)
theorem own_cap {W : World} {B E k n : Nat} {a : Option Addr} {c : Nat} {C : List Value} (h : W.ownsRow B E k (.slice a (n + 1) c) (n + 1) C) : ∃ g, a = some ⟨g, 0, none⟩ ∧ n + 1 ≤ c := by
  obtain ⟨_, (⟨_, h0⟩ | ⟨g, cap, cur, e, _, _, h1, _⟩)⟩ := h
  · omega
  · simp at e
    obtain ⟨rfl, rfl⟩ := e
    exact ⟨g, rfl, h1⟩

theorem owns_wk {W : World} {B B' E k n : Nat} {v : Value} {C : List Value} (h : W.ownsRow B E k v n C) (hb : B' ≤ B) : W.ownsRow B' E k v n C := by
  obtain ⟨h1, h2⟩ := h
  refine ⟨h1, ?_⟩
  rcases h2 with h2 | ⟨g, cap, cur, e, hbg, hg, hc1, hc2, hc3, hc4⟩
  · exact .inl h2
  · exact .inr ⟨g, cap, cur, e, Nat.le_trans hb hbg, hg, hc1, hc2, hc3, hc4⟩
set_option maxRecDepth 100000 in
set_option maxHeartbeats 8000000 in
theorem twin_in (o : Opn) (ad ag : Option Addr) (cd cg : Nat) (w : World) (hd : RI w (.slice ad o.deps.length cd) o.deps) (hg : RR w (.slice ag o.gone.length cg) o.gone) (hs1 : o.deps.length ≤ 100000) (hs2 : o.gone.length ≤ 100000) :
    Calls Tryz.prog 30 #[.agg #[.int .i64 o.ds, .int .i64 o.dq, .slice ad o.deps.length cd, .int .i64 o.kind, .int .i64 o.it, .int .i64 o.is, .int .i64 o.rt, .int .i64 o.rs, .string o.text, .slice ag o.gone.length cg, .int .i64 o.site]] w fun e W => ∃ gd c1 gg c2, e = .returned (.agg #[.int .i64 o.ds, .int .i64 o.dq, .slice (some ⟨gd, 0, none⟩) o.deps.length c1, .int .i64 o.kind, .int .i64 o.it, .int .i64 o.is, .int .i64 o.rt, .int .i64 o.rs, .string o.text, .slice (some ⟨gg, 0, none⟩) o.gone.length c2, .int .i64 o.site]) ∧ Tw W w.heap.size o.deps o.gone gd c1 gg c2 ∧ Below w.heap.size w W := by
  obtain ⟨X, hX⟩ : ∃ X, w.alloc (.cells #[.int .i64 o.ds, .int .i64 o.dq, .slice ad o.deps.length cd, .int .i64 o.kind, .int .i64 o.it, .int .i64 o.is, .int .i64 o.rt, .int .i64 o.rs, .string o.text, .slice ag o.gone.length cg, .int .i64 o.site] 45) = X := ⟨_, rfl⟩
  have HX : Bx X w.heap.size 45 #[.int .i64 o.ds, .int .i64 o.dq, .slice ad o.deps.length cd, .int .i64 o.kind, .int .i64 o.it, .int .i64 o.is, .int .i64 o.rt, .int .i64 o.rs, .string o.text, .slice ag o.gone.length cg, .int .i64 o.site] := by rw [← hX]; exact Bx.new w _ _
  have bX : Below w.heap.size w X := by rw [← hX]; exact ballc (Below.refl _ _) _
  obtain ⟨Y, hY⟩ : ∃ Y, X.alloc (.cells #[.int .i64 0, .int .i64 0, .slice none 0 0, .int .i64 0, .int .i64 0, .int .i64 0, .int .i64 0, .int .i64 0, .string ⟨#[]⟩, .slice none 0 0, .int .i64 0] 45) = Y := ⟨_, rfl⟩
  have HY : Bx Y X.heap.size 45 #[.int .i64 0, .int .i64 0, .slice none 0 0, .int .i64 0, .int .i64 0, .int .i64 0, .int .i64 0, .int .i64 0, .string ⟨#[]⟩, .slice none 0 0, .int .i64 0] := by rw [← hY]; exact Bx.new X _ _
  have bXY : Below X.heap.size X Y := by rw [← hY]; exact ballc (Below.refl _ _) _
  have bY := bnext bX bXY
  have HXY := HX.below bXY
  have hxs : X.heap.size = w.heap.size + 1 := by rw [← hX]; simp
  rw [hxs] at HY
  -- the lists
  obtain ⟨v1, W1, hap1, ho1, hg1⟩ := app_nil 23 28 2 16 _ Tryz.underlying23 infoD rfl (by decide) Y Y.heap.size 23 _ o.deps.length (flat encI o.deps) (hd.below bY) (flat_len encI_len o.deps) encI_oneT (Nat.le_refl _) (by unfold maxLen; omega) (by omega)
  have b1 : Below Y.heap.size Y W1 := (Below.refl _ Y).grown hg1 (Nat.le_refl _) (fun k hk => by cases hk)
  obtain ⟨v2, W2, hap2, ho2, hg2, -⟩ := append_dot W1 23 Y.heap.size v1 o.deps 77 77 ho1 b1.size (by omega)
  have b2 : Below Y.heap.size Y W2 := (ballc b1 _).grown hg2 (ballc b1 _).size (fun k hk => (ho1.lt k hk).1)
  obtain ⟨v3, W3, hap3, ho3, hg3⟩ := app_nil 43 81 3 24 _ Tryz.underlying43 infoRu rfl (by decide) W2 W2.heap.size 43 _ o.gone.length (flat encR o.gone) (RC.below (RC.below hg bY) b2) (flat_len encR_len o.gone) encR_oneT (Nat.le_refl _) (by unfold maxLen; omega) (by omega)
  have b23 : Below W2.heap.size W2 W3 := (Below.refl _ W2).grown hg3 (Nat.le_refl _) (fun k hk => by cases hk)
  have b3 : Below Y.heap.size Y W3 := bnext b2 b23
  obtain ⟨V, hV⟩ : ∃ V, W3.alloc (.cells #[.int .i64 0, .int .i64 0, .int .i64 77] 81) = V := ⟨_, rfl⟩
  have bV : Below W3.heap.size W3 V := by rw [← hV]; exact ballc (Below.refl _ _) _
  have xV : Bx V W3.heap.size 81 #[.int .i64 0, .int .i64 0, .int .i64 77] := by rw [← hV]; exact Bx.new W3 _ _
  obtain ⟨v4, W4, hap4, ho4, hg4⟩ := append_run V 43 W2.heap.size v3 o.gone 0 0 77 W3.heap.size (show OwR V W2.heap.size v3 o.gone from owns_kp ho3 (Kp.of_below (N := fun _ => False) bV) (fun _ _ e => e)) xV (by have := b23.size; have := bV.size; omega) (by omega)
  have b24 : Below W2.heap.size W2 W4 := (bnext b23 bV).grown hg4 (bnext b23 bV).size (fun k hk => (ho3.lt k hk).1)
  have b4 : Below Y.heap.size Y W4 := bnext b2 b24
  have o2 := owns_kp ho2 (Kp.of_below (N := fun _ => False) b24) (fun _ _ e => e)
  have l2 : (o.deps ++ [((77 : Int), (77 : Int))]).length = o.deps.length + 1 := by simp
  have l4 : (o.gone ++ [(((0 : Int), (0 : Int)), (77 : Int))]).length = o.gone.length + 1 := by simp
  have o4 : W4.ownsRow W2.heap.size 81 3 v4 (o.gone ++ [((0, 0), 77)]).length (flat encR (o.gone ++ [((0, 0), 77)])) := ho4
  rw [l2] at o2
  rw [l4] at o4
  obtain ⟨a2, c1, rfl⟩ := owns_form o2
  obtain ⟨a4, c2, rfl⟩ := owns_form o4
  obtain ⟨gd, rfl, hc1⟩ := own_cap o2
  obtain ⟨gg, rfl, hc2⟩ := own_cap o4
  have hgd := (o2.lt gd rfl).1
  have hgg := (o4.lt gg rfl).1
  have ys := b2.size
  have hsl1 := fun W n => sl_toVt W (some ⟨gd, 0, none⟩) n c1 o.deps.length (by omega)
  have hsl2 := fun W n => sl_toRt W (some ⟨gg, 0, none⟩) n c2 o.gone.length (by omega)
  -- the boxes behind them
  have x2 := HXY.below b2
  have x4 := HXY.below b4
  have y4 := HY.below b4
  obtain ⟨Z1, hZ1⟩ : ∃ Z, W4.setCell ⟨w.heap.size, 2, none⟩ (.slice (some ⟨gd, 0, none⟩) o.deps.length c1) = Z := ⟨_, rfl⟩
  have z1 : Bx Z1 w.heap.size 45 #[.int .i64 o.ds, .int .i64 o.dq, .slice (some ⟨gd, 0, none⟩) o.deps.length c1, .int .i64 o.kind, .int .i64 o.it, .int .i64 o.is, .int .i64 o.rt, .int .i64 o.rs, .string o.text, .slice ag o.gone.length cg, .int .i64 o.site] := by rw [← hZ1]; simpa using x4.set 2 (.slice (some ⟨gd, 0, none⟩) o.deps.length c1)
  obtain ⟨Z2, hZ2⟩ : ∃ Z, Z1.setCell ⟨w.heap.size, 9, none⟩ (.slice (some ⟨gg, 0, none⟩) o.gone.length c2) = Z := ⟨_, rfl⟩
  have z2 : Bx Z2 w.heap.size 45 #[.int .i64 o.ds, .int .i64 o.dq, .slice (some ⟨gd, 0, none⟩) o.deps.length c1, .int .i64 o.kind, .int .i64 o.it, .int .i64 o.is, .int .i64 o.rt, .int .i64 o.rs, .string o.text, .slice (some ⟨gg, 0, none⟩) o.gone.length c2, .int .i64 o.site] := by rw [← hZ2]; simpa using z1.set 9 (.slice (some ⟨gg, 0, none⟩) o.gone.length c2)
  have kp2 : Kp (fun k => k = w.heap.size) W4 Z2 := by rw [← hZ2, ← hZ1]; exact (Kp.set (N := fun k => k = w.heap.size) W4 ⟨w.heap.size, 2, none⟩ _ rfl).trans (Kp.set (N := fun k => k = w.heap.size) _ ⟨w.heap.size, 9, none⟩ _ rfl) (fun i h => .inl h)
  have yz : Bx Z2 (w.heap.size + 1) 45 #[.int .i64 0, .int .i64 0, .slice none 0 0, .int .i64 0, .int .i64 0, .int .i64 0, .int .i64 0, .int .i64 0, .string ⟨#[]⟩, .slice none 0 0, .int .i64 0] := y4.kp kp2 (by omega)
  have y3 := Bx.set11 (x0 := .int .i64 o.ds) (x1 := .int .i64 o.dq) (x2 := .slice (some ⟨gd, 0, none⟩) o.deps.length c1) (x3 := .int .i64 o.kind) (x4 := .int .i64 o.it) (x5 := .int .i64 o.is) (x6 := .int .i64 o.rt) (x7 := .int .i64 o.rs) (x8 := .string o.text) (x9 := .slice (some ⟨gg, 0, none⟩) o.gone.length c2) (x10 := .int .i64 o.site) yz
  have kp3 := Kp.set11 Z2 (w.heap.size + 1) (.int .i64 o.ds) (.int .i64 o.dq) (.slice (some ⟨gd, 0, none⟩) o.deps.length c1) (.int .i64 o.kind) (.int .i64 o.it) (.int .i64 o.is) (.int .i64 o.rt) (.int .i64 o.rs) (.string o.text) (.slice (some ⟨gg, 0, none⟩) o.gone.length c2) (.int .i64 o.site)
  generalize hZ3 : (((((((((((Z2.setCell ⟨w.heap.size + 1, 0, none⟩ (.int .i64 o.ds)).setCell ⟨w.heap.size + 1, 1, none⟩ (.int .i64 o.dq)).setCell ⟨w.heap.size + 1, 2, none⟩ (.slice (some ⟨gd, 0, none⟩) o.deps.length c1)).setCell ⟨w.heap.size + 1, 3, none⟩ (.int .i64 o.kind)).setCell ⟨w.heap.size + 1, 4, none⟩ (.int .i64 o.it)).setCell ⟨w.heap.size + 1, 5, none⟩ (.int .i64 o.is)).setCell ⟨w.heap.size + 1, 6, none⟩ (.int .i64 o.rt)).setCell ⟨w.heap.size + 1, 7, none⟩ (.int .i64 o.rs)).setCell ⟨w.heap.size + 1, 8, none⟩ (.string o.text)).setCell ⟨w.heap.size + 1, 9, none⟩ (.slice (some ⟨gg, 0, none⟩) o.gone.length c2)).setCell ⟨w.heap.size + 1, 10, none⟩ (.int .i64 o.site)) = Z3 at y3 kp3
  have hw4 : Below w.heap.size w Z3 := kp3.below (kp2.below (bnext bY b4) (fun i e => by omega)) (fun i e => by omega)
  have hYs : w.heap.size + 1 < Y.heap.size := by have := HY.lt; omega
  have htw : Tw Z3 w.heap.size o.deps o.gone gd c1 gg c2 := by
    have h1 := owns_kp (owns_kp o2 kp2 (fun i hi e => by have := (o2.lt i hi).1; omega)) kp3 (fun i hi e => by have := (o2.lt i hi).1; omega)
    have h2 := owns_kp (owns_kp o4 kp2 (fun i hi e => by have := (o4.lt i hi).1; omega)) kp3 (fun i hi e => by have := (o4.lt i hi).1; omega)
    exact ⟨owns_wk h1 (by omega), owns_wk h2 (by omega)⟩
  have HW := hide hw4
  have HT := hide htw
  have Hy3 := hide y3
  obtain ⟨p0, p1, p2, p3, p4, p5, p6, p7, p8, p9, p10⟩ := cells_op HXY
  obtain ⟨q0, q1, q2, q3, q4, q5, q6, q7, q8, q9, q10⟩ := cells_op x2
  obtain ⟨r0, r1, r2, r3, r4, r5, r6, r7, r8, r9, r10⟩ := cells_op x4
  have rf2 := x4.frozen 2
  obtain ⟨s0, s1, s2, s3, s4, s5, s6, s7, s8, s9, s10⟩ := cells_op z1
  have sf9 := z1.frozen 9
  obtain ⟨t0, t1, t2, t3, t4, t5, t6, t7, t8, t9, t10⟩ := cells_op z2
  obtain ⟨u0, u1, u2, u3, u4, u5, u6, u7, u8, u9, u10⟩ := cells_op yz
  have uf0 := yz.frozen 0
  have uf1 := yz.frozen 1
  have uf2 := yz.frozen 2
  have uf3 := yz.frozen 3
  have uf4 := yz.frozen 4
  have uf5 := yz.frozen 5
  have uf6 := yz.frozen 6
  have uf7 := yz.frozen 7
  have uf8 := yz.frozen 8
  have uf9 := yz.frozen 9
  have uf10 := yz.frozen 10
  replace hap1 := hide hap1
  replace hap2 := hide hap2
  replace hap3 := hide hap3
  replace hap4 := hide hap4
  clear HX bX HY bXY bY HXY ho1 hg1 b1 ho2 hg2 b2 ho3 hg3 b23 b3 bV xV ho4 hg4 b24 b4 o2 o4 l2 l4 hc1 hc2 hgd hgg ys x2 x4 y4 z1 z2 kp2 yz y3 kp3 hw4 hYs htw hd hg
  go_enter Tryz.func30, Tryz.ntmps30
  go_wp2_with (at_builtin; first | (have H1 := hap1; clear hap1; refine wpList_append_eq rfl _ _ 23 rfl _ _ _ _ rfl rfl (unhide H1) ?_; clear H1) | (have H2 := hap2; clear hap2; refine wpList_append_eq rfl _ _ 23 rfl _ _ _ _ rfl rfl (unhide H2) ?_; clear H2) | (have H3 := hap3; clear hap3; refine wpList_append_eq rfl _ _ 43 rfl _ _ _ _ rfl rfl (unhide H3) ?_; clear H3) | (have H4 := hap4; clear hap4; refine wpList_append_eq rfl _ _ 43 rfl _ _ _ _ rfl rfl (unhide H4) ?_; clear H4))
  refine bodyPost_ret (results_cell_row rfl _ _ (w.heap.size + 1) _ _ _ _ rfl (unhide Hy3) Tryz.underlying45 rfl sizeOp) rfl ?_
  exact ⟨gd, c1, gg, c2, rfl, unhide HT, unhide HW⟩

theorem Tw.capd {W : World} {B : Nat} {deps : List (Int × Int)} {gone : List ((Int × Int) × Int)} {gd cd gg cg : Nat} (h : Tw W B deps gone gd cd gg cg) : deps.length + 1 ≤ cd ∧ gone.length + 1 ≤ cg := by
  obtain ⟨_, _, h1⟩ := own_cap h.d
  obtain ⟨_, _, h2⟩ := own_cap h.g
  exact ⟨h1, h2⟩
theorem Tw.md {W : World} {B : Nat} {deps : List (Int × Int)} {gone : List ((Int × Int) × Int)} {gd cd gg cg : Nat} (h : Tw W B deps gone gd cd gg cg) : W.cell? ⟨gd, deps.length * 2, none⟩ = some (.int .i64 77) ∧ W.cell? ⟨gd, deps.length * 2 + 1, none⟩ = some (.int .i64 77) ∧ W.cell? ⟨gg, gone.length * 3 + 2, none⟩ = some (.int .i64 77) := by
  have hx : (deps ++ [((77 : Int), (77 : Int))])[deps.length]? = some (77, 77) := by simp
  have hy : (gone ++ [(((0 : Int), (0 : Int)), (77 : Int))])[gone.length]? = some ((0, 0), 77) := by simp
  have h0 := h.d.cellAt (deps.length * 2) (by omega)
  have h1 := h.d.cellAt (deps.length * 2 + 1) (by omega)
  have h2 := h.g.cellAt (gone.length * 3 + 2) (by omega)
  rw [show deps.length * 2 = deps.length * 2 + 0 from rfl, flat_get encI_len _ deps.length 0 _ hx (by omega)] at h0
  rw [flat_get encI_len _ deps.length 1 _ hx (by omega)] at h1
  rw [flat_get encR_len _ gone.length 2 _ hy (by omega)] at h2
  exact ⟨h0, h1, h2⟩

set_option maxRecDepth 100000 in
set_option maxHeartbeats 8000000 in
theorem spoil_in (o : Opn) (ad ag : Option Addr) (cd cg : Nat) (B gd c1 gg c2 : Nat) (w : World) (ht : Tw w B o.deps o.gone gd c1 gg c2) (hd : RI w (.slice ad o.deps.length cd) o.deps) (hg : RR w (.slice ag o.gone.length cg) o.gone) (hs1 : o.deps.length ≤ 100000) (hs2 : o.gone.length ≤ 100000) :
    Calls Tryz.prog 32 #[.agg #[.int .i64 o.ds, .int .i64 o.dq, .slice (some ⟨gd, 0, none⟩) o.deps.length c1, .int .i64 o.kind, .int .i64 o.it, .int .i64 o.is, .int .i64 o.rt, .int .i64 o.rs, .string o.text, .slice (some ⟨gg, 0, none⟩) o.gone.length c2, .int .i64 o.site], .agg #[.int .i64 o.ds, .int .i64 o.dq, .slice ad o.deps.length cd, .int .i64 o.kind, .int .i64 o.it, .int .i64 o.is, .int .i64 o.rt, .int .i64 o.rs, .string o.text, .slice ag o.gone.length cg, .int .i64 o.site]] w fun e W => e = .returned (.bool true) ∧ Kp (fun i => i = gd ∨ i = gg) w W := by
  obtain ⟨X, hX⟩ : ∃ X, w.alloc (.cells #[.int .i64 o.ds, .int .i64 o.dq, .slice (some ⟨gd, 0, none⟩) o.deps.length c1, .int .i64 o.kind, .int .i64 o.it, .int .i64 o.is, .int .i64 o.rt, .int .i64 o.rs, .string o.text, .slice (some ⟨gg, 0, none⟩) o.gone.length c2, .int .i64 o.site] 45) = X := ⟨_, rfl⟩
  have HX : Bx X w.heap.size 45 #[.int .i64 o.ds, .int .i64 o.dq, .slice (some ⟨gd, 0, none⟩) o.deps.length c1, .int .i64 o.kind, .int .i64 o.it, .int .i64 o.is, .int .i64 o.rt, .int .i64 o.rs, .string o.text, .slice (some ⟨gg, 0, none⟩) o.gone.length c2, .int .i64 o.site] := by rw [← hX]; exact Bx.new w _ _
  have bX : Below w.heap.size w X := by rw [← hX]; exact ballc (Below.refl _ _) _
  obtain ⟨Y, hY⟩ : ∃ Y, X.alloc (.cells #[.int .i64 o.ds, .int .i64 o.dq, .slice ad o.deps.length cd, .int .i64 o.kind, .int .i64 o.it, .int .i64 o.is, .int .i64 o.rt, .int .i64 o.rs, .string o.text, .slice ag o.gone.length cg, .int .i64 o.site] 45) = Y := ⟨_, rfl⟩
  have HY : Bx Y X.heap.size 45 #[.int .i64 o.ds, .int .i64 o.dq, .slice ad o.deps.length cd, .int .i64 o.kind, .int .i64 o.it, .int .i64 o.is, .int .i64 o.rt, .int .i64 o.rs, .string o.text, .slice ag o.gone.length cg, .int .i64 o.site] := by rw [← hY]; exact Bx.new X _ _
  have bXY : Below X.heap.size X Y := by rw [← hY]; exact ballc (Below.refl _ _) _
  have bY := bnext bX bXY
  have HXY := HX.below bXY
  have HSm := hide (lsame_in o _ _ _ _ Y (ht.below bY).ri (ht.below bY).rr (hd.below bY) (RC.below hg bY) (by omega) (by omega))
  unfold opA at HSm
  have HT := hide (fun (W : World) (h : Below Y.heap.size Y W) => (ht.below bY).below h)
  have HA := hide (fun (W : World) (h : Below Y.heap.size Y W) => HXY.below h)
  obtain ⟨hc1, hc2⟩ := ht.capd
  have hsl1 := fun W n => sl_toVt W (some ⟨gd, 0, none⟩) n c1 (o.deps.length + 1) hc1
  have hsl2 := fun W n => sl_toRt W (some ⟨gg, 0, none⟩) n c2 (o.gone.length + 1) hc2
  obtain ⟨p0, p1, p2, p3, p4, p5, p6, p7, p8, p9, p10⟩ := cells_op HXY
  obtain ⟨q0, q1, q2, q3, q4, q5, q6, q7, q8, q9, q10⟩ := cells_op HY
  obtain ⟨n, hn⟩ : ∃ n, o.deps.length = n := ⟨_, rfl⟩
  obtain ⟨k, hk⟩ : ∃ k, o.gone.length = k := ⟨_, rfl⟩
  have HB := hide bY
  have Hn := hide hn
  have Hk := hide hk
  rw [hn] at hs1 hsl1 p2 q2 HSm HA hX hY ⊢
  rw [hk] at hs2 hsl2 p9 q9 HSm HA hX hY ⊢
  have e1 : ((n + 1 : Nat) : Int) = (n : Int) + 1 := by omega
  have e2 : ((k + 1 : Nat) : Int) = (k : Int) + 1 := by omega
  simp only [e1] at hsl1
  simp only [e2] at hsl2
  clear HX bX bXY bY HXY HY ht hd hg hc1 hc2 hn hk e1 e2
  go_enter Tryz.func32, Tryz.ntmps32
  go_wp2_with fail
  refine (unhide HSm).mono ?_
  rintro e W1 ⟨rfl, hb1⟩
  have ht1 := unhide HT W1 hb1
  obtain ⟨m0, m1, m2⟩ := ht1.md
  rw [unhide Hn] at m0 m1
  rw [unhide Hk] at m2
  have XD : Hid (OwX W1 28 2 (.slice (some ⟨gd, 0, none⟩) (n + 1) c1) (n + 1)) := hide (by rw [← unhide Hn]; exact OwX.of ht1.d)
  have XG : Hid (OwX W1 81 3 (.slice (some ⟨gg, 0, none⟩) (k + 1) c2) (k + 1)) := hide (by rw [← unhide Hk]; exact OwX.of ht1.g)
  obtain ⟨r0, r1, r2, r3, r4, r5, r6, r7, r8, r9, r10⟩ := cells_op (unhide HA W1 hb1)
  have rl := (unhide HA W1 hb1).lt
  have HB1 := hide (bnext (unhide HB) hb1)
  have G1 : Hid (Kp (fun i => i = gd ∨ i = gg) W1 W1 ∧ SS W1 W1) := hide ⟨Kp.refl _ _, SS.refl _⟩
  clear hb1 ht1 HSm HT HA p0 p1 p2 p3 p4 p5 p6 p7 p8 p9 p10 q0 q1 q2 q3 q4 q5 q6 q7 q8 q9 q10 hX hY
  go_wp2
  go_loopw [10] (fun iv wr => ∃ i : Nat, iv = .int .i64 (i : Nat) ∧ i ≤ n + 1 ∧ Hid (Kp (fun i => i = gd ∨ i = gg) W1 wr ∧ SS W1 wr)) (fun iv _ => n + 1 - (RowKit.intOf iv).toNat)
  case atStart => exact ⟨0, rfl, by omega, G1⟩
  case round =>
    clear G1
    obtain ⟨i, rfl, hi, G1⟩ := hrel
    by_cases hlt : i < n + 1
    · have hlt' : (i : Int) < (n : Int) + 1 := by omega
      obtain ⟨g, hge, l0, fz, cc, _⟩ := ((unhide XD).ss (unhide G1).2).at (by omega)
      simp only [Option.some.injEq, Addr.mk.injEq, and_true] at hge
      subst hge
      obtain ⟨y0, d0⟩ := cc (i * 2) (by omega)
      obtain ⟨y1, d1⟩ := cc (i * 2 + 1) (by omega)
      have f0 := fz (i * 2)
      have f1 := fz (i * 2 + 1)
      have G2 : Hid (Kp (fun i => i = gd ∨ i = gg) W1 ((wr.setCell ⟨gd, i * 2, none⟩ (.int .i64 5)).setCell ⟨gd, i * 2 + 1, none⟩ (.int .i64 55)) ∧ SS W1 ((wr.setCell ⟨gd, i * 2, none⟩ (.int .i64 5)).setCell ⟨gd, i * 2 + 1, none⟩ (.int .i64 55))) :=
        hide ⟨((unhide G1).1.trans (Kp.set (N := fun k => k = gd) _ _ _ rfl) (fun i e => .inl (.inl e))).trans (Kp.set (N := fun k => k = gd) _ _ _ rfl) (fun i e => .inl (.inl e)), ((unhide G1).2.trans (SS.set _ _ _ _)).trans (SS.set _ _ _ _)⟩
      clear G1 fz cc
      go_wp2
      go_roundw
      case rel => exact ⟨i + 1, by go_num, by omega, G2⟩
      case measure => simp [RowKit.intOf]; omega
    · have hlt' : ¬ (i : Int) < (n : Int) + 1 := by omega
      go_wp2
      clear hlt' hlt hi
      go_loopw [11] (fun iv wr => ∃ i : Nat, iv = .int .i64 (i : Nat) ∧ i ≤ k + 1 ∧ Hid (Kp (fun i => i = gd ∨ i = gg) W1 wr ∧ SS W1 wr)) (fun iv _ => k + 1 - (RowKit.intOf iv).toNat)
      case atStart => exact ⟨0, rfl, by omega, G1⟩
      case round =>
        clear G1
        obtain ⟨j, rfl, hj, G1⟩ := hrel
        by_cases hlt : j < k + 1
        · have hlt' : (j : Int) < (k : Int) + 1 := by omega
          obtain ⟨g, hge, l0, fz, cc, _⟩ := ((unhide XG).ss (unhide G1).2).at (by omega)
          simp only [Option.some.injEq, Addr.mk.injEq, and_true] at hge
          subst hge
          obtain ⟨y0, d0⟩ := cc (j * 3) (by omega)
          obtain ⟨y1, d1⟩ := cc (j * 3 + 1) (by omega)
          obtain ⟨y2, d2⟩ := cc (j * 3 + 2) (by omega)
          have f0 := fz (j * 3)
          have f1 := fz (j * 3 + 1)
          have f2 := fz (j * 3 + 2)
          have G2 : Hid (Kp (fun i => i = gd ∨ i = gg) W1 (((wr.setCell ⟨gg, j * 3, none⟩ (.int .i64 0)).setCell ⟨gg, j * 3 + 1, none⟩ (.int .i64 0)).setCell ⟨gg, j * 3 + 2, none⟩ (.int .i64 66)) ∧ SS W1 (((wr.setCell ⟨gg, j * 3, none⟩ (.int .i64 0)).setCell ⟨gg, j * 3 + 1, none⟩ (.int .i64 0)).setCell ⟨gg, j * 3 + 2, none⟩ (.int .i64 66))) :=
            hide ⟨(((unhide G1).1.trans (Kp.set (N := fun k => k = gg) _ _ _ rfl) (fun i e => .inl (.inr e))).trans (Kp.set (N := fun k => k = gg) _ _ _ rfl) (fun i e => .inl (.inr e))).trans (Kp.set (N := fun k => k = gg) _ _ _ rfl) (fun i e => .inl (.inr e)), (((unhide G1).2.trans (SS.set _ _ _ _)).trans (SS.set _ _ _ _)).trans (SS.set _ _ _ _)⟩
          clear G1 fz cc
          go_wp2
          go_roundw
          case rel => exact ⟨j + 1, by go_num, by omega, G2⟩
          case measure => simp [RowKit.intOf]; omega
        · have hlt' : ¬ (j : Int) < (k : Int) + 1 := by omega
          go_wp2
          go_ret
          exact ⟨rfl, (Kp.of_below (unhide HB1)).trans (unhide G1).1 (fun i e => .inl e)⟩

end Go.Proofs.YtijjoikeceechaaGreat

/-
  The law's step: what it has in memory.
-/
set_option linter.unusedSimpArgs false
set_option linter.unusedVariables false
namespace Go.Proofs.YtijjoikeceechaaGreat
open Go.RowKit Go.Lib

/-- a list in a row of its own, a mark behind it -/
def Mk (W : World) (N : Nat) (l : List (Int × Int)) (g c : Nat) : Prop := W.ownsRow N 28 2 (.slice (some ⟨g, 0, none⟩) (l.length + 1) c) (l.length + 1) (flat encI (l ++ [(77, 77)]))
theorem Mk.kp {N : Nat → Prop} {W W' : World} {B : Nat} {l : List (Int × Int)} {g c : Nat} (h : Mk W B l g c) (k : Kp N W W') (hn : ¬ N g) : Mk W' B l g c := owns_kp h k (fun i hi e => by simp [Value.ownBlock] at hi; subst hi; exact hn e)
theorem Mk.ri {W : World} {B : Nat} {l : List (Int × Int)} {g c : Nat} (h : Mk W B l g c) : RI W (.slice (some ⟨g, 0, none⟩) l.length c) l :=
  RC.take1 (RC.of_owns h) (fun j x hx => by rw [flat_append]; exact (List.getElem?_append_left (List.getElem?_eq_some_iff.1 hx).1).trans hx)
theorem Mk.cap {W : World} {B : Nat} {l : List (Int × Int)} {g c : Nat} (h : Mk W B l g c) : l.length + 1 ≤ c := by
  obtain ⟨_, _, h1⟩ := own_cap h
  exact h1
theorem Mk.lo {W : World} {B : Nat} {l : List (Int × Int)} {g c : Nat} (h : Mk W B l g c) : B ≤ g ∧ g < W.heap.size := h.lt g rfl
theorem Mk.md {W : World} {B : Nat} {l : List (Int × Int)} {g c : Nat} (h : Mk W B l g c) : W.cell? ⟨g, l.length * 2, none⟩ = some (.int .i64 77) ∧ W.cell? ⟨g, l.length * 2 + 1, none⟩ = some (.int .i64 77) := by
  have hx : (l ++ [((77 : Int), (77 : Int))])[l.length]? = some (77, 77) := by simp
  have h0 := h.cellAt (l.length * 2) (by omega)
  have h1 := h.cellAt (l.length * 2 + 1) (by omega)
  rw [show l.length * 2 = l.length * 2 + 0 from rfl, flat_get encI_len _ l.length 0 _ hx (by omega)] at h0
  rw [flat_get encI_len _ l.length 1 _ hx (by omega)] at h1
  exact ⟨h0, h1⟩
theorem mark_row (W : World) (a : Option Addr) (c : Nat) (l : List (Int × Int)) (hr : RI W (.slice a l.length c) l) (hl : l.length ≤ 100000) :
    ∃ a1 c1 W1 g c2 W2, (Builtin.append_ #[23, 23] 23 #[.slice none 0 0, .slice a l.length c]).run Tryz.prog W = .ok (.slice a1 l.length c1) W1 ∧ (Builtin.append_ #[23, 23] 23 #[.slice a1 l.length c1, .slice (some ⟨W1.heap.size, 0, none⟩) 1 1]).run Tryz.prog (W1.alloc (.cells #[.int .i64 77, .int .i64 77] 28)) = .ok (.slice (some ⟨g, 0, none⟩) (l.length + 1) c2) W2 ∧ Mk W2 W.heap.size l g c2 ∧ Below W.heap.size W W1 ∧ Below W.heap.size W W2 := by
  obtain ⟨v1, W1, hap1, ho1, hg1⟩ := app_nil 23 28 2 16 _ Tryz.underlying23 infoD rfl (by decide) W W.heap.size 23 _ l.length (flat encI l) hr (flat_len encI_len l) encI_oneT (Nat.le_refl _) (by unfold maxLen; omega) (by omega)
  have b1 : Below W.heap.size W W1 := (Below.refl _ W).grown hg1 (Nat.le_refl _) (fun k hk => by cases hk)
  obtain ⟨v2, W2, hap2, ho2, hg2, -⟩ := append_dot W1 23 W.heap.size v1 l 77 77 ho1 b1.size (by omega)
  have b2 : Below W.heap.size W W2 := (ballc b1 _).grown hg2 (ballc b1 _).size (fun k hk => (ho1.lt k hk).1)
  obtain ⟨a1, c1, rfl⟩ := owns_form ho1
  have l2 : (l ++ [((77 : Int), (77 : Int))]).length = l.length + 1 := by simp
  rw [l2] at ho2
  obtain ⟨a2, c2, rfl⟩ := owns_form ho2
  obtain ⟨g, rfl, hc⟩ := own_cap ho2
  exact ⟨a1, c1, W1, g, c2, W2, hap1, hap2, ho2, b1, b2⟩

/-- a step's variables: the log that is told, the step, the result, the row that is handed in -/
structure SF (W : World) (bx by' bz N : Nat) (x0 x1 : Value) (S : Array Value) (l : List (Int × Int)) (g c : Nat) : Prop where
  x : Bx W bx 35 #[x0, x1]
  y : Bx W by' 47 S
  z : Bx W bz 35 #[.slice none 0 0, .slice none 0 0]
  m : Mk W N l g c
theorem SF.kp {N : Nat → Prop} {W W' : World} {bx by' bz B : Nat} {x0 x1 : Value} {S : Array Value} {l : List (Int × Int)} {g c : Nat} (h : SF W bx by' bz B x0 x1 S l g c) (k : Kp N W W') (h1 : ¬ N bx) (h2 : ¬ N by') (h3 : ¬ N bz) (h4 : ¬ N g) : SF W' bx by' bz B x0 x1 S l g c :=
  ⟨h.x.kp k h1, h.y.kp k h2, h.z.kp k h3, h.m.kp k h4⟩
theorem SF.below {W W' : World} {bx by' bz B : Nat} {x0 x1 : Value} {S : Array Value} {l : List (Int × Int)} {g c : Nat} (h : SF W bx by' bz B x0 x1 S l g c) (hb : Below W.heap.size W W') : SF W' bx by' bz B x0 x1 S l g c :=
  h.kp (N := fun _ => False) (Kp.of_below hb) (fun e => e) (fun e => e) (fun e => e) (fun e => e)
theorem SF.setx {W : World} {bx by' bz B : Nat} {x0 x1 : Value} {S : Array Value} {l : List (Int × Int)} {g c : Nat} (h : SF W bx by' bz B x0 x1 S l g c) (y0 y1 : Value) (h2 : by' ≠ bx) (h3 : bz ≠ bx) (h4 : g ≠ bx) : SF ((W.setCell ⟨bx, 0, none⟩ y0).setCell ⟨bx, 1, none⟩ y1) bx by' bz B y0 y1 S l g c := by
  have k := kp2 W bx y0 y1
  exact ⟨box2 h.x y0 y1, h.y.kp k h2, h.z.kp k h3, h.m.kp k h4⟩

/-- what a step has done; K: what is new from there on is the document's -/
structure TS (w W W8 : World) (P P' R : Nat → Prop) (K b : Nat) (x : Value) (B H : List (Int × Int)) (O : List Opn) : Prop where
  ll : LL P' W8 b B H O
  ln : LN (fun i => R i ∨ K ≤ i) W8 x B O
  kp : Kp P W W8
  pp : ∀ i, P' i → (P i ∨ W.heap.size ≤ i) ∧ i < K
  rr : ∀ i, R i → i < W.heap.size ∧ ¬ P i
  k0 : W.heap.size ≤ K
  k1 : K ≤ W8.heap.size
/-- what is told of a step -/
def StA (W : World) (P R : Nat → Prop) (b : Nat) (B H : List (Int × Int)) (O : List Opn) (e : Ending) (W' : World) : Prop :=
  ∃ x' P', e = .returned (.tuple #[x', .bool true]) ∧ LL P' W' b B H O ∧ (∀ i, P' i → (P i ∨ W.heap.size ≤ i) ∧ i < W'.heap.size) ∧ LN (fun i => R i ∨ (W.heap.size ≤ i ∧ ¬ P' i)) W' x' B O ∧ Kp P W W'
theorem TS.fin {w W W8 W' : World} {P P' R : Nat → Prop} {K b gv bz : Nat} {x : Value} {B H : List (Int × Int)} {O : List Opn} (h : TS w W W8 P P' R K b x B H O) (k : Kp (fun i => i = gv ∨ i = bz) W8 W') (h1 : W.heap.size ≤ gv ∧ gv < K ∧ ¬ P' gv) (h2 : W.heap.size ≤ bz ∧ bz < K ∧ ¬ P' bz) : StA W P R b B H O (.returned (.tuple #[x, .bool true])) W' := by
  have hz := k.size
  have z8 := h.k1
  refine ⟨x, P', rfl, h.ll.kp k (fun i e p => ?_), fun i hi => ⟨(h.pp i hi).1, by have := (h.pp i hi).2; omega⟩, (h.ln.kp k (fun i e p => ?_)).mono (fun i hi q => ?_), h.kp.trans k (fun i e => ?_)⟩
  · rcases e with rfl | rfl
    · exact h1.2.2 p
    · exact h2.2.2 p
  · rcases p with p | p
    · have := (h.rr i p).1
      rcases e with rfl | rfl <;> omega
    · rcases e with rfl | rfl <;> omega
  · rcases q with q | q
    · exact .inl q
    · exact .inr ⟨by have := h.k0; omega, fun p => by have := (h.pp i p).2; omega⟩
  · rcases e with rfl | rfl
    · exact .inr h1.1
    · exact .inr h2.1

end Go.Proofs.YtijjoikeceechaaGreat
