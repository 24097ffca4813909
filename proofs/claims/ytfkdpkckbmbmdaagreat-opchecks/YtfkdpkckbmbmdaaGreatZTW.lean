/-
  The law's twin of an operation, and whether it stands.
-/
import Derived.Test.YtfkdpkckbmbmdaaGreatZR10
import Derived.Test.YtfkdpkckbmbmdaaGreatZP4
import Derived.Test.YtfkdpkckbmbmdaaGreatZXQ2
set_option linter.unusedSimpArgs false
set_option linter.unusedVariables false
namespace Go.Proofs.YtfkdpkckbmbmdaaGreat
open Go.RowKit Go.Lib

/-- append(nil, l...) -/
theorem app_nil (TS E : TypeId) (k bytes : Nat) (z : Value) (ht : Tryz.prog.underlying TS = some (.slice E)) (hinf : (Tryz.prog.info? E).map (fun i => (i.zero, i.size, i.bytes)) = some (some z, k, bytes)) (hzs : z.cells.size = k) (k0 : 0 < k)
    (w : World) (base : Nat) (ty : TypeId) (v : Value) (n : Nat) (C : List Value) (h : RC w v n C) (hC : C.length = n * k) (h1 : ∀ u ∈ C, u.oneCell' = true) (hb : base ≤ w.heap.size) (hn : n ≤ maxLen) (hby : n * bytes ≤ 140737488355328) :
    ∃ v' w', (Builtin.append_ #[TS, TS] ty #[.slice none 0 0, v]).run Tryz.prog w = .ok v' w' ∧ w'.ownsRow base E k v' n C ∧ w.grownBy w' none := by
  obtain ⟨i0, hi, hz0, hz1, hz2⟩ := info_parts hinf
  have step : ∀ (ad : Addr) (cc : Nat), v = .slice (some ad) n cc → (∀ j x, C[j]? = some x → w.cell? (ad.add j) = some x) → ∃ v' w', (Builtin.append_ #[TS, TS] ty #[.slice none 0 0, v]).run Tryz.prog w = .ok v' w' ∧ w'.ownsRow base E k v' n C ∧ w.grownBy w' none := by
    rintro ad cc rfl hc
    obtain ⟨v', w', q1, q2, q3, _⟩ := run_append_own (P := Tryz.prog) w base TS ty E i0 z k bytes ht hi hz0 hz1 hz2 hzs k0 (.slice none 0 0) 0 [] (World.ownsRow_nil _ _ _ _) ad n cc C hC hc h1 (by omega) (by rw [Nat.zero_add]; exact hby) hb
    exact ⟨v', w', q1, by simpa using q2, q3⟩
  rcases h with ⟨h0, a, cap, rfl⟩ | ⟨b, off, cap, rfl, _, _, hc⟩
  · subst h0
    have e : C = [] := List.eq_nil_of_length_eq_zero (by simpa using hC)
    subst e
    cases a with
    | some ad => exact step ad cap rfl (fun j x hx => by simp at hx)
    | none =>
      refine ⟨.slice none 0 0, w, ?_, World.ownsRow_nil _ _ _ _, ⟨rfl, rfl, rfl, Nat.le_refl _, fun _ _ _ => rfl⟩⟩
      simp [Builtin.append_, run_underlying ht, sizeOf, typeInfo, hi, Builtin.lenOf, Builtin.firstCells, storeCells]
  · exact step ⟨b, off, none⟩ cap rfl (fun j x hx => by rw [Addr.add_lit]; exact hc j x hx)

theorem encI_oneT {l : List (Int × Int)} : ∀ u ∈ flat encI l, u.oneCell' = true := fun u hu => by
  obtain ⟨x, _, hx⟩ := flat_mem hu
  unfold encI at hx
  simp at hx
  rcases hx with rfl | rfl <;> rfl
theorem encR_oneT {l : List ((Int × Int) × Int)} : ∀ u ∈ flat encR l, u.oneCell' = true := fun u hu => by
  obtain ⟨x, _, hx⟩ := flat_mem hu
  unfold encR at hx
  simp at hx
  rcases hx with rfl | rfl | rfl <;> rfl
theorem sl_toVt (w : World) (a : Option Addr) (n c k : Nat) (hk : k ≤ c) :
    (Instr.sliceAt 25 (.slice a n c) none (some (.int .i64 (k : Nat))) none).run Tryz.prog w = .ok (.slice a k c) w := by
  obtain ⟨i0, hi, hz0, hz1, hz2⟩ := info_parts infoD
  have h1 : (k : Int) ≤ (c : Int) := by omega
  simp [Instr.sliceAt, Instr.slice, run_underlying Tryz.underlying25, sizeOf, typeInfo, hi, hz1, go_sem, h1, hk]
theorem sl_toRt (w : World) (a : Option Addr) (n c k : Nat) (hk : k ≤ c) :
    (Instr.sliceAt 28 (.slice a n c) none (some (.int .i64 (k : Nat))) none).run Tryz.prog w = .ok (.slice a k c) w := by
  obtain ⟨i0, hi, hz0, hz1, hz2⟩ := info_parts infoRu
  have h1 : (k : Int) ≤ (c : Int) := by omega
  simp [Instr.sliceAt, Instr.slice, run_underlying Tryz.underlying28, sizeOf, typeInfo, hi, hz1, go_sem, h1, hk]

/-- an operation's lists in rows of their own, a mark behind each -/
structure Tw (W : World) (B : Nat) (deps : List (Int × Int)) (gone : List ((Int × Int) × Int)) (gd cd gg cg : Nat) : Prop where
  d : W.ownsRow B 23 2 (.slice (some ⟨gd, 0, none⟩) (deps.length + 1) cd) (deps.length + 1) (flat encI (deps ++ [(77, 77)]))
  g : W.ownsRow B 32 3 (.slice (some ⟨gg, 0, none⟩) (gone.length + 1) cg) (gone.length + 1) (flat encR (gone ++ [((0, 0), 77)]))
theorem Tw.below {W W' : World} {B : Nat} {deps : List (Int × Int)} {gone : List ((Int × Int) × Int)} {gd cd gg cg : Nat} (h : Tw W B deps gone gd cd gg cg) (hb : Below W.heap.size W W') : Tw W' B deps gone gd cd gg cg :=
  ⟨owns_kp h.d (Kp.of_below (N := fun _ => False) hb) (fun _ _ e => e), owns_kp h.g (Kp.of_below (N := fun _ => False) hb) (fun _ _ e => e)⟩
theorem RC.take1 {W : World} {a : Option Addr} {n c : Nat} {C D : List Value} (h : RC W (.slice a (n + 1) c) (n + 1) C) (hD : ∀ (j : Nat) (x : Value), D[j]? = some x → C[j]? = some x) : RC W (.slice a n c) n D := by
  rcases h with ⟨h0, _⟩ | ⟨b, off, cap, e, h1, h2, h3⟩
  · omega
  · simp at e
    obtain ⟨rfl, rfl⟩ := e
    exact .inr ⟨b, off, c, rfl, by omega, h2, fun j x hx => h3 j x (hD j x hx)⟩
theorem Tw.ri {W : World} {B : Nat} {deps : List (Int × Int)} {gone : List ((Int × Int) × Int)} {gd cd gg cg : Nat} (h : Tw W B deps gone gd cd gg cg) : RI W (.slice (some ⟨gd, 0, none⟩) deps.length cd) deps :=
  RC.take1 (RC.of_owns h.d) (fun j x hx => by rw [flat_append]; exact (List.getElem?_append_left (List.getElem?_eq_some_iff.1 hx).1).trans hx)
theorem Tw.rr {W : World} {B : Nat} {deps : List (Int × Int)} {gone : List ((Int × Int) × Int)} {gd cd gg cg : Nat} (h : Tw W B deps gone gd cd gg cg) : RR W (.slice (some ⟨gg, 0, none⟩) gone.length cg) gone :=
  RC.take1 (RC.of_owns h.g) (fun j x hx => by rw [flat_append]; exact (List.getElem?_append_left (List.getElem?_eq_some_iff.1 hx).1).trans hx)
theorem own_cap {W : World} {B E k n : Nat} {a : Option Addr} {c : Nat} {C : List Value} (h : W.ownsRow B E k (.slice a (n + 1) c) (n + 1) C) : ∃ g, a = some ⟨g, 0, none⟩ ∧ n + 1 ≤ c := by
  obtain ⟨_, (⟨_, h0⟩ | ⟨g, cap, cur, e, _, _, h1, _⟩)⟩ := h
  · omega
  · simp at e
    obtain ⟨rfl, rfl⟩ := e
    exact ⟨g, rfl, h1⟩

theorem owns_wk {W : World} {B B' E k n : Nat} {v : Value} {C : List Value} (h : W.ownsRow B E k v n C) (hb : B' ≤ B) : W.ownsRow B' E k v n C := by
  obtain ⟨h1, h2⟩ := h
  refine ⟨h1, ?_⟩
  rcases h2 with h2 | ⟨g, cap, cur, e, hbg, hg, hc1, hc2, hc3, hc4⟩
  · exact .inl h2
  · exact .inr ⟨g, cap, cur, e, Nat.le_trans hb hbg, hg, hc1, hc2, hc3, hc4⟩
set_option maxRecDepth 100000 in
set_option maxHeartbeats 8000000 in
theorem twin_in (o : Opn) (ad ag : Option Addr) (cd cg : Nat) (w : World) (hd : RI w (.slice ad o.deps.length cd) o.deps) (hg : RR w (.slice ag o.gone.length cg) o.gone) (hs1 : o.deps.length ≤ 100000) (hs2 : o.gone.length ≤ 100000) :
    Calls Tryz.prog 8 #[.agg #[.int .i64 o.ds, .int .i64 o.dq, .slice ad o.deps.length cd, .int .i64 o.kind, .int .i64 o.it, .int .i64 o.is, .int .i64 o.rt, .int .i64 o.rs, .string o.text, .slice ag o.gone.length cg, .int .i64 o.site]] w fun e W => ∃ gd c1 gg c2, e = .returned (.agg #[.int .i64 o.ds, .int .i64 o.dq, .slice (some ⟨gd, 0, none⟩) o.deps.length c1, .int .i64 o.kind, .int .i64 o.it, .int .i64 o.is, .int .i64 o.rt, .int .i64 o.rs, .string o.text, .slice (some ⟨gg, 0, none⟩) o.gone.length c2, .int .i64 o.site]) ∧ Tw W w.heap.size o.deps o.gone gd c1 gg c2 ∧ Below w.heap.size w W := by
  obtain ⟨X, hX⟩ : ∃ X, w.alloc (.cells #[.int .i64 o.ds, .int .i64 o.dq, .slice ad o.deps.length cd, .int .i64 o.kind, .int .i64 o.it, .int .i64 o.is, .int .i64 o.rt, .int .i64 o.rs, .string o.text, .slice ag o.gone.length cg, .int .i64 o.site] 30) = X := ⟨_, rfl⟩
  have HX : Bx X w.heap.size 30 #[.int .i64 o.ds, .int .i64 o.dq, .slice ad o.deps.length cd, .int .i64 o.kind, .int .i64 o.it, .int .i64 o.is, .int .i64 o.rt, .int .i64 o.rs, .string o.text, .slice ag o.gone.length cg, .int .i64 o.site] := by rw [← hX]; exact Bx.new w _ _
  have bX : Below w.heap.size w X := by rw [← hX]; exact ballc (Below.refl _ _) _
  obtain ⟨Y, hY⟩ : ∃ Y, X.alloc (.cells #[.int .i64 0, .int .i64 0, .slice none 0 0, .int .i64 0, .int .i64 0, .int .i64 0, .int .i64 0, .int .i64 0, .string ⟨#[]⟩, .slice none 0 0, .int .i64 0] 30) = Y := ⟨_, rfl⟩
  have HY : Bx Y X.heap.size 30 #[.int .i64 0, .int .i64 0, .slice none 0 0, .int .i64 0, .int .i64 0, .int .i64 0, .int .i64 0, .int .i64 0, .string ⟨#[]⟩, .slice none 0 0, .int .i64 0] := by rw [← hY]; exact Bx.new X _ _
  have bXY : Below X.heap.size X Y := by rw [← hY]; exact ballc (Below.refl _ _) _
  have bY := bnext bX bXY
  have HXY := HX.below bXY
  have hxs : X.heap.size = w.heap.size + 1 := by rw [← hX]; simp
  rw [hxs] at HY
  -- the lists
  obtain ⟨v1, W1, hap1, ho1, hg1⟩ := app_nil 25 23 2 16 _ Tryz.underlying25 infoD rfl (by decide) Y Y.heap.size 25 _ o.deps.length (flat encI o.deps) (hd.below bY) (flat_len encI_len o.deps) encI_oneT (Nat.le_refl _) (by unfold maxLen; omega) (by omega)
  have b1 : Below Y.heap.size Y W1 := (Below.refl _ Y).grown hg1 (Nat.le_refl _) (fun k hk => by cases hk)
  obtain ⟨v2, W2, hap2, ho2, hg2, -⟩ := append_dot W1 25 Y.heap.size v1 o.deps 77 77 ho1 b1.size (by omega)
  have b2 : Below Y.heap.size Y W2 := (ballc b1 _).grown hg2 (ballc b1 _).size (fun k hk => (ho1.lt k hk).1)
  obtain ⟨v3, W3, hap3, ho3, hg3⟩ := app_nil 28 32 3 24 _ Tryz.underlying28 infoRu rfl (by decide) W2 W2.heap.size 28 _ o.gone.length (flat encR o.gone) (RC.below (RC.below hg bY) b2) (flat_len encR_len o.gone) encR_oneT (Nat.le_refl _) (by unfold maxLen; omega) (by omega)
  have b23 : Below W2.heap.size W2 W3 := (Below.refl _ W2).grown hg3 (Nat.le_refl _) (fun k hk => by cases hk)
  have b3 : Below Y.heap.size Y W3 := bnext b2 b23
  obtain ⟨V, hV⟩ : ∃ V, W3.alloc (.cells #[.int .i64 0, .int .i64 0, .int .i64 77] 32) = V := ⟨_, rfl⟩
  have bV : Below W3.heap.size W3 V := by rw [← hV]; exact ballc (Below.refl _ _) _
  have xV : Bx V W3.heap.size 32 #[.int .i64 0, .int .i64 0, .int .i64 77] := by rw [← hV]; exact Bx.new W3 _ _
  obtain ⟨v4, W4, hap4, ho4, hg4⟩ := append_run V 28 W2.heap.size v3 o.gone 0 0 77 W3.heap.size (show OwR V W2.heap.size v3 o.gone from owns_kp ho3 (Kp.of_below (N := fun _ => False) bV) (fun _ _ e => e)) xV (by have := b23.size; have := bV.size; omega) (by omega)
  have b24 : Below W2.heap.size W2 W4 := (bnext b23 bV).grown hg4 (bnext b23 bV).size (fun k hk => (ho3.lt k hk).1)
  have b4 : Below Y.heap.size Y W4 := bnext b2 b24
  have o2 := owns_kp ho2 (Kp.of_below (N := fun _ => False) b24) (fun _ _ e => e)
  have l2 : (o.deps ++ [((77 : Int), (77 : Int))]).length = o.deps.length + 1 := by simp
  have l4 : (o.gone ++ [(((0 : Int), (0 : Int)), (77 : Int))]).length = o.gone.length + 1 := by simp
  have o4 : W4.ownsRow W2.heap.size 32 3 v4 (o.gone ++ [((0, 0), 77)]).length (flat encR (o.gone ++ [((0, 0), 77)])) := ho4
  rw [l2] at o2
  rw [l4] at o4
  obtain ⟨a2, c1, rfl⟩ := owns_form o2
  obtain ⟨a4, c2, rfl⟩ := owns_form o4
  obtain ⟨gd, rfl, hc1⟩ := own_cap o2
  obtain ⟨gg, rfl, hc2⟩ := own_cap o4
  have hgd := (o2.lt gd rfl).1
  have hgg := (o4.lt gg rfl).1
  have ys := b2.size
  have hsl1 := fun W n => sl_toVt W (some ⟨gd, 0, none⟩) n c1 o.deps.length (by omega)
  have hsl2 := fun W n => sl_toRt W (some ⟨gg, 0, none⟩) n c2 o.gone.length (by omega)
  -- the boxes behind them
  have x2 := HXY.below b2
  have x4 := HXY.below b4
  have y4 := HY.below b4
  obtain ⟨Z1, hZ1⟩ : ∃ Z, W4.setCell ⟨w.heap.size, 2, none⟩ (.slice (some ⟨gd, 0, none⟩) o.deps.length c1) = Z := ⟨_, rfl⟩
  have z1 : Bx Z1 w.heap.size 30 #[.int .i64 o.ds, .int .i64 o.dq, .slice (some ⟨gd, 0, none⟩) o.deps.length c1, .int .i64 o.kind, .int .i64 o.it, .int .i64 o.is, .int .i64 o.rt, .int .i64 o.rs, .string o.text, .slice ag o.gone.length cg, .int .i64 o.site] := by rw [← hZ1]; simpa using x4.set 2 (.slice (some ⟨gd, 0, none⟩) o.deps.length c1)
  obtain ⟨Z2, hZ2⟩ : ∃ Z, Z1.setCell ⟨w.heap.size, 9, none⟩ (.slice (some ⟨gg, 0, none⟩) o.gone.length c2) = Z := ⟨_, rfl⟩
  have z2 : Bx Z2 w.heap.size 30 #[.int .i64 o.ds, .int .i64 o.dq, .slice (some ⟨gd, 0, none⟩) o.deps.length c1, .int .i64 o.kind, .int .i64 o.it, .int .i64 o.is, .int .i64 o.rt, .int .i64 o.rs, .string o.text, .slice (some ⟨gg, 0, none⟩) o.gone.length c2, .int .i64 o.site] := by rw [← hZ2]; simpa using z1.set 9 (.slice (some ⟨gg, 0, none⟩) o.gone.length c2)
  have kp2 : Kp (fun k => k = w.heap.size) W4 Z2 := by rw [← hZ2, ← hZ1]; exact (Kp.set (N := fun k => k = w.heap.size) W4 ⟨w.heap.size, 2, none⟩ _ rfl).trans (Kp.set (N := fun k => k = w.heap.size) _ ⟨w.heap.size, 9, none⟩ _ rfl) (fun i h => .inl h)
  have yz : Bx Z2 (w.heap.size + 1) 30 #[.int .i64 0, .int .i64 0, .slice none 0 0, .int .i64 0, .int .i64 0, .int .i64 0, .int .i64 0, .int .i64 0, .string ⟨#[]⟩, .slice none 0 0, .int .i64 0] := y4.kp kp2 (by omega)
  have y3 := Bx.set11 (x0 := .int .i64 o.ds) (x1 := .int .i64 o.dq) (x2 := .slice (some ⟨gd, 0, none⟩) o.deps.length c1) (x3 := .int .i64 o.kind) (x4 := .int .i64 o.it) (x5 := .int .i64 o.is) (x6 := .int .i64 o.rt) (x7 := .int .i64 o.rs) (x8 := .string o.text) (x9 := .slice (some ⟨gg, 0, none⟩) o.gone.length c2) (x10 := .int .i64 o.site) yz
  have kp3 := Kp.set11 Z2 (w.heap.size + 1) (.int .i64 o.ds) (.int .i64 o.dq) (.slice (some ⟨gd, 0, none⟩) o.deps.length c1) (.int .i64 o.kind) (.int .i64 o.it) (.int .i64 o.is) (.int .i64 o.rt) (.int .i64 o.rs) (.string o.text) (.slice (some ⟨gg, 0, none⟩) o.gone.length c2) (.int .i64 o.site)
  generalize hZ3 : (((((((((((Z2.setCell ⟨w.heap.size + 1, 0, none⟩ (.int .i64 o.ds)).setCell ⟨w.heap.size + 1, 1, none⟩ (.int .i64 o.dq)).setCell ⟨w.heap.size + 1, 2, none⟩ (.slice (some ⟨gd, 0, none⟩) o.deps.length c1)).setCell ⟨w.heap.size + 1, 3, none⟩ (.int .i64 o.kind)).setCell ⟨w.heap.size + 1, 4, none⟩ (.int .i64 o.it)).setCell ⟨w.heap.size + 1, 5, none⟩ (.int .i64 o.is)).setCell ⟨w.heap.size + 1, 6, none⟩ (.int .i64 o.rt)).setCell ⟨w.heap.size + 1, 7, none⟩ (.int .i64 o.rs)).setCell ⟨w.heap.size + 1, 8, none⟩ (.string o.text)).setCell ⟨w.heap.size + 1, 9, none⟩ (.slice (some ⟨gg, 0, none⟩) o.gone.length c2)).setCell ⟨w.heap.size + 1, 10, none⟩ (.int .i64 o.site)) = Z3 at y3 kp3
  have hw4 : Below w.heap.size w Z3 := kp3.below (kp2.below (bnext bY b4) (fun i e => by omega)) (fun i e => by omega)
  have hYs : w.heap.size + 1 < Y.heap.size := by have := HY.lt; omega
  have htw : Tw Z3 w.heap.size o.deps o.gone gd c1 gg c2 := by
    have h1 := owns_kp (owns_kp o2 kp2 (fun i hi e => by have := (o2.lt i hi).1; omega)) kp3 (fun i hi e => by have := (o2.lt i hi).1; omega)
    have h2 := owns_kp (owns_kp o4 kp2 (fun i hi e => by have := (o4.lt i hi).1; omega)) kp3 (fun i hi e => by have := (o4.lt i hi).1; omega)
    exact ⟨owns_wk h1 (by omega), owns_wk h2 (by omega)⟩
  have HW := hide hw4
  have HT := hide htw
  have Hy3 := hide y3
  obtain ⟨p0, p1, p2, p3, p4, p5, p6, p7, p8, p9, p10⟩ := cells_op HXY
  obtain ⟨q0, q1, q2, q3, q4, q5, q6, q7, q8, q9, q10⟩ := cells_op x2
  obtain ⟨r0, r1, r2, r3, r4, r5, r6, r7, r8, r9, r10⟩ := cells_op x4
  have rf2 := x4.frozen 2
  obtain ⟨s0, s1, s2, s3, s4, s5, s6, s7, s8, s9, s10⟩ := cells_op z1
  have sf9 := z1.frozen 9
  obtain ⟨t0, t1, t2, t3, t4, t5, t6, t7, t8, t9, t10⟩ := cells_op z2
  obtain ⟨u0, u1, u2, u3, u4, u5, u6, u7, u8, u9, u10⟩ := cells_op yz
  have uf0 := yz.frozen 0
  have uf1 := yz.frozen 1
  have uf2 := yz.frozen 2
  have uf3 := yz.frozen 3
  have uf4 := yz.frozen 4
  have uf5 := yz.frozen 5
  have uf6 := yz.frozen 6
  have uf7 := yz.frozen 7
  have uf8 := yz.frozen 8
  have uf9 := yz.frozen 9
  have uf10 := yz.frozen 10
  replace hap1 := hide hap1
  replace hap2 := hide hap2
  replace hap3 := hide hap3
  replace hap4 := hide hap4
  clear HX bX HY bXY bY HXY ho1 hg1 b1 ho2 hg2 b2 ho3 hg3 b23 b3 bV xV ho4 hg4 b24 b4 o2 o4 l2 l4 hc1 hc2 hgd hgg ys x2 x4 y4 z1 z2 kp2 yz y3 kp3 hw4 hYs htw hd hg
  go_enter Tryz.func8, Tryz.ntmps8
  go_wp2_with (at_builtin; first | (have H1 := hap1; clear hap1; refine wpList_append_eq rfl _ _ 25 rfl _ _ _ _ rfl rfl (unhide H1) ?_; clear H1) | (have H2 := hap2; clear hap2; refine wpList_append_eq rfl _ _ 25 rfl _ _ _ _ rfl rfl (unhide H2) ?_; clear H2) | (have H3 := hap3; clear hap3; refine wpList_append_eq rfl _ _ 28 rfl _ _ _ _ rfl rfl (unhide H3) ?_; clear H3) | (have H4 := hap4; clear hap4; refine wpList_append_eq rfl _ _ 28 rfl _ _ _ _ rfl rfl (unhide H4) ?_; clear H4))
  refine bodyPost_ret (results_cell_row rfl _ _ (w.heap.size + 1) _ _ _ _ rfl (unhide Hy3) Tryz.underlying30 rfl sizeO) rfl ?_
  exact ⟨gd, c1, gg, c2, rfl, unhide HT, unhide HW⟩

end Go.Proofs.YtfkdpkckbmbmdaaGreat
