/-
  The law's twin of an operation, and whether it stands.
-/
import Derived.Test.YtfkdpkckbmbmdaaGreatZXR8
import Derived.Test.YtfkdpkckbmbmdaaGreatZP4
import Derived.Test.YtfkdpkckbmbmdaaGreatZXQ2
import Derived.Test.YtfkdpkckbmbmdaaGreatZQ5

set_option linter.unusedSimpArgs false
set_option linter.unusedVariables false
namespace Go.Proofs.YtfkdpkckbmbmdaaGreat
open Go.RowKit Go.Lib

/-- append(nil, l...) -/
theorem app_nil (TS E : TypeId) (k bytes : Nat) (z : Value) (ht : Tryz.prog.underlying TS = some (.slice E)) (hinf : (Tryz.prog.info? E).map (fun i => (i.zero, i.size, i.bytes)) = some (some z, k, bytes)) (hzs : z.cells.size = k) (k0 : 0 < k)
    (w : World) (base : Nat) (ty : TypeId) (v : Value) (n : Nat) (C : List Value) (h : RC w v n C) (hC : C.length = n * k) (h1 : ∀ u ∈ C, u.oneCell' = true) (hb : base ≤ w.heap.size) (hn : n ≤ maxLen) (hby : n * bytes ≤ 140737488355328) :
    ∃ v' w', (Builtin.append_ #[TS, TS] ty #[.slice none 0 0, v]).run Tryz.prog w = .ok v' w' ∧ w'.ownsRow base E k v' n C ∧ w.grownBy w' none := by
  obtain ⟨i0, hi, hz0, hz1, hz2⟩ := info_parts hinf
  have step : ∀ (ad : Addr) (cc : Nat), v = .slice (some ad) n cc → (∀ j x, C[j]? = some x → w.cell? (ad.add j) = some x) → ∃ v' w', (Builtin.append_ #[TS, TS] ty #[.slice none 0 0, v]).run Tryz.prog w = .ok v' w' ∧ w'.ownsRow base E k v' n C ∧ w.grownBy w' none := by
    rintro ad cc rfl hc
    obtain ⟨v', w', q1, q2, q3, _⟩ := run_append_own (P := Tryz.prog) w base TS ty E i0 z k bytes ht hi hz0 hz1 hz2 hzs k0 (.slice none 0 0) 0 [] (World.ownsRow_nil _ _ _ _) ad n cc C hC hc h1 (by omega) (by rw [Nat.zero_add]; exact hby) hb
    exact ⟨v', w', q1, by simpa using q2, q3⟩
  rcases h with ⟨h0, a, cap, rfl⟩ | ⟨b, off, cap, rfl, _, _, hc⟩
  · subst h0
    have e : C = [] := List.eq_nil_of_length_eq_zero (by simpa using hC)
    subst e
    cases a with
    | some ad => exact step ad cap rfl (fun j x hx => by simp at hx)
    | none =>
      refine ⟨.slice none 0 0, w, ?_, World.ownsRow_nil _ _ _ _, ⟨rfl, rfl, rfl, Nat.le_refl _, fun _ _ _ => rfl⟩⟩
      simp [Builtin.append_, run_underlying ht, sizeOf, typeInfo, hi, Builtin.lenOf, Builtin.firstCells, storeCells]
  · exact step ⟨b, off, none⟩ cap rfl (fun j x hx => by rw [Addr.add_lit]; exact hc j x hx)

theorem encI_oneT {l : List (Int × Int)} : ∀ u ∈ flat encI l, u.oneCell' = true := fun u hu => by
  obtain ⟨x, _, hx⟩ := flat_mem hu
  unfold encI at hx
  simp at hx
  rcases hx with rfl | rfl <;> rfl
theorem encR_oneT {l : List ((Int × Int) × Int)} : ∀ u ∈ flat encR l, u.oneCell' = true := fun u hu => by
  obtain ⟨x, _, hx⟩ := flat_mem hu
  unfold encR at hx
  simp at hx
  rcases hx with rfl | rfl | rfl <;> rfl
theorem sl_toVt (w : World) (a : Option Addr) (n c k : Nat) (hk : k ≤ c) :
    (Instr.sliceAt 25 (.slice a n c) none (some (.int .i64 (k : Nat))) none).run Tryz.prog w = .ok (.slice a k c) w := by
  obtain ⟨i0, hi, hz0, hz1, hz2⟩ := info_parts infoD
  have h1 : (k : Int) ≤ (c : Int) := by omega
  simp [Instr.sliceAt, Instr.slice, run_underlying Tryz.underlying25, sizeOf, typeInfo, hi, hz1, go_sem, h1, hk]
theorem sl_toRt (w : World) (a : Option Addr) (n c k : Nat) (hk : k ≤ c) :
    (Instr.sliceAt 28 (.slice a n c) none (some (.int .i64 (k : Nat))) none).run Tryz.prog w = .ok (.slice a k c) w := by
  obtain ⟨i0, hi, hz0, hz1, hz2⟩ := info_parts infoRu
  have h1 : (k : Int) ≤ (c : Int) := by omega
  simp [Instr.sliceAt, Instr.slice, run_underlying Tryz.underlying28, sizeOf, typeInfo, hi, hz1, go_sem, h1, hk]

/-- an operation's lists in rows of their own, a mark behind each -/
structure Tw (W : World) (B : Nat) (deps : List (Int × Int)) (gone : List ((Int × Int) × Int)) (gd cd gg cg : Nat) : Prop where
  d : W.ownsRow B 23 2 (.slice (some ⟨gd, 0, none⟩) (deps.length + 1) cd) (deps.length + 1) (flat encI (deps ++ [(77, 77)]))
  g : W.ownsRow B 32 3 (.slice (some ⟨gg, 0, none⟩) (gone.length + 1) cg) (gone.length + 1) (flat encR (gone ++ [((0, 0), 77)]))
theorem Tw.below {W W' : World} {B : Nat} {deps : List (Int × Int)} {gone : List ((Int × Int) × Int)} {gd cd gg cg : Nat} (h : Tw W B deps gone gd cd gg cg) (hb : Below W.heap.size W W') : Tw W' B deps gone gd cd gg cg :=
  ⟨owns_kp h.d (Kp.of_below (N := fun _ => False) hb) (fun _ _ e => e), owns_kp h.g (Kp.of_below (N := fun _ => False) hb) (fun _ _ e => e)⟩
theorem RC.take1 {W : World} {a : Option Addr} {n c : Nat} {C D : List Value} (h : RC W (.slice a (n + 1) c) (n + 1) C) (hD : ∀ (j : Nat) (x : Value), D[j]? = some x → C[j]? = some x) : RC W (.slice a n c) n D := by
  rcases h with ⟨h0, _⟩ | ⟨b, off, cap, e, h1, h2, h3⟩
  · omega
  · simp at e
    obtain ⟨rfl, rfl⟩ := e
    exact .inr ⟨b, off, c, rfl, by omega, h2, fun j x hx => h3 j x (hD j x hx)⟩
theorem Tw.ri {W : World} {B : Nat} {deps : List (Int × Int)} {gone : List ((Int × Int) × Int)} {gd cd gg cg : Nat} (h : Tw W B deps gone gd cd gg cg) : RI W (.slice (some ⟨gd, 0, none⟩) deps.length cd) deps :=
  RC.take1 (RC.of_owns h.d) (fun j x hx => by rw [flat_append]; exact (List.getElem?_append_left (List.getElem?_eq_some_iff.1 hx).1).trans hx)
theorem Tw.rr {W : World} {B : Nat} {deps : List (Int × Int)} {gone : List ((Int × Int) × Int)} {gd cd gg cg : Nat} (h : Tw W B deps gone gd cd gg cg) : RR W (.slice (some ⟨gg, 0, none⟩) gone.length cg) gone :=
  RC.take1 (RC.of_owns h.g) (fun j x hx => by rw [flat_append]; exact (List.getElem?_append_left (List.getElem?_eq_some_iff.1 hx).1).trans hx)
theorem own_cap {W : World} {B E k n : Nat} {a : Option Addr} {c : Nat} {C : List Value} (h : W.ownsRow B E k (.slice a (n + 1) c) (n + 1) C) : ∃ g, a = some ⟨g, 0, none⟩ ∧ n + 1 ≤ c := by
  obtain ⟨_, (⟨_, h0⟩ | ⟨g, cap, cur, e, _, _, h1, _⟩)⟩ := h
  · omega
  · simp at e
    obtain ⟨rfl, rfl⟩ := e
    exact ⟨g, rfl, h1⟩

theorem owns_wk {W : World} {B B' E k n : Nat} {v : Value} {C : List Value} (h : W.ownsRow B E k v n C) (hb : B' ≤ B) : W.ownsRow B' E k v n C := by
  obtain ⟨h1, h2⟩ := h
  refine ⟨h1, ?_⟩
  rcases h2 with h2 | ⟨g, cap, cur, e, hbg, hg, hc1, hc2, hc3, hc4⟩
  · exact .inl h2
  · exact .inr ⟨g, cap, cur, e, Nat.le_trans hb hbg, hg, hc1, hc2, hc3, hc4⟩
set_option maxRecDepth 100000 in
set_option maxHeartbeats 8000000 in
theorem twin_in (o : Opn) (ad ag : Option Addr) (cd cg : Nat) (w : World) (hd : RI w (.slice ad o.deps.length cd) o.deps) (hg : RR w (.slice ag o.gone.length cg) o.gone) (hs1 : o.deps.length ≤ 100000) (hs2 : o.gone.length ≤ 100000) :
    Calls Tryz.prog 8 #[.agg #[.int .i64 o.ds, .int .i64 o.dq, .slice ad o.deps.length cd, .int .i64 o.kind, .int .i64 o.it, .int .i64 o.is, .int .i64 o.rt, .int .i64 o.rs, .string o.text, .slice ag o.gone.length cg, .int .i64 o.site]] w fun e W => ∃ gd c1 gg c2, e = .returned (.agg #[.int .i64 o.ds, .int .i64 o.dq, .slice (some ⟨gd, 0, none⟩) o.deps.length c1, .int .i64 o.kind, .int .i64 o.it, .int .i64 o.is, .int .i64 o.rt, .int .i64 o.rs, .string o.text, .slice (some ⟨gg, 0, none⟩) o.gone.length c2, .int .i64 o.site]) ∧ Tw W w.heap.size o.deps o.gone gd c1 gg c2 ∧ Below w.heap.size w W := by
  obtain ⟨X, hX⟩ : ∃ X, w.alloc (.cells #[.int .i64 o.ds, .int .i64 o.dq, .slice ad o.deps.length cd, .int .i64 o.kind, .int .i64 o.it, .int .i64 o.is, .int .i64 o.rt, .int .i64 o.rs, .string o.text, .slice ag o.gone.length cg, .int .i64 o.site] 30) = X := ⟨_, rfl⟩
  have HX : Bx X w.heap.size 30 #[.int .i64 o.ds, .int .i64 o.dq, .slice ad o.deps.length cd, .int .i64 o.kind, .int .i64 o.it, .int .i64 o.is, .int .i64 o.rt, .int .i64 o.rs, .string o.text, .slice ag o.gone.length cg, .int .i64 o.site] := by rw [← hX]; exact Bx.new w _ _
  have bX : Below w.heap.size w X := by rw [← hX]; exact ballc (Below.refl _ _) _
  obtain ⟨Y, hY⟩ : ∃ Y, X.alloc (.cells #[.int .i64 0, .int .i64 0, .slice none 0 0, .int .i64 0, .int .i64 0, .int .i64 0, .int .i64 0, .int .i64 0, .string ⟨#[]⟩, .slice none 0 0, .int .i64 0] 30) = Y := ⟨_, rfl⟩
  have HY : Bx Y X.heap.size 30 #[.int .i64 0, .int .i64 0, .slice none 0 0, .int .i64 0, .int .i64 0, .int .i64 0, .int .i64 0, .int .i64 0, .string ⟨#[]⟩, .slice none 0 0, .int .i64 0] := by rw [← hY]; exact Bx.new X _ _
  have bXY : Below X.heap.size X Y := by rw [← hY]; exact ballc (Below.refl _ _) _
  have bY := bnext bX bXY
  have HXY := HX.below bXY
  have hxs : X.heap.size = w.heap.size + 1 := by rw [← hX]; simp
  rw [hxs] at HY
  -- the lists
  obtain ⟨v1, W1, hap1, ho1, hg1⟩ := app_nil 25 23 2 16 _ Tryz.underlying25 infoD rfl (by decide) Y Y.heap.size 25 _ o.deps.length (flat encI o.deps) (hd.below bY) (flat_len encI_len o.deps) encI_oneT (Nat.le_refl _) (by unfold maxLen; omega) (by omega)
  have b1 : Below Y.heap.size Y W1 := (Below.refl _ Y).grown hg1 (Nat.le_refl _) (fun k hk => by cases hk)
  obtain ⟨v2, W2, hap2, ho2, hg2, -⟩ := append_dot W1 25 Y.heap.size v1 o.deps 77 77 ho1 b1.size (by omega)
  have b2 : Below Y.heap.size Y W2 := (ballc b1 _).grown hg2 (ballc b1 _).size (fun k hk => (ho1.lt k hk).1)
  obtain ⟨v3, W3, hap3, ho3, hg3⟩ := app_nil 28 32 3 24 _ Tryz.underlying28 infoRu rfl (by decide) W2 W2.heap.size 28 _ o.gone.length (flat encR o.gone) (RC.below (RC.below hg bY) b2) (flat_len encR_len o.gone) encR_oneT (Nat.le_refl _) (by unfold maxLen; omega) (by omega)
  have b23 : Below W2.heap.size W2 W3 := (Below.refl _ W2).grown hg3 (Nat.le_refl _) (fun k hk => by cases hk)
  have b3 : Below Y.heap.size Y W3 := bnext b2 b23
  obtain ⟨V, hV⟩ : ∃ V, W3.alloc (.cells #[.int .i64 0, .int .i64 0, .int .i64 77] 32) = V := ⟨_, rfl⟩
  have bV : Below W3.heap.size W3 V := by rw [← hV]; exact ballc (Below.refl _ _) _
  have xV : Bx V W3.heap.size 32 #[.int .i64 0, .int .i64 0, .int .i64 77] := by rw [← hV]; exact Bx.new W3 _ _
  obtain ⟨v4, W4, hap4, ho4, hg4⟩ := append_run V 28 W2.heap.size v3 o.gone 0 0 77 W3.heap.size (show OwR V W2.heap.size v3 o.gone from owns_kp ho3 (Kp.of_below (N := fun _ => False) bV) (fun _ _ e => e)) xV (by have := b23.size; have := bV.size; omega) (by omega)
  have b24 : Below W2.heap.size W2 W4 := (bnext b23 bV).grown hg4 (bnext b23 bV).size (fun k hk => (ho3.lt k hk).1)
  have b4 : Below Y.heap.size Y W4 := bnext b2 b24
  have o2 := owns_kp ho2 (Kp.of_below (N := fun _ => False) b24) (fun _ _ e => e)
  have l2 : (o.deps ++ [((77 : Int), (77 : Int))]).length = o.deps.length + 1 := by simp
  have l4 : (o.gone ++ [(((0 : Int), (0 : Int)), (77 : Int))]).length = o.gone.length + 1 := by simp
  have o4 : W4.ownsRow W2.heap.size 32 3 v4 (o.gone ++ [((0, 0), 77)]).length (flat encR (o.gone ++ [((0, 0), 77)])) := ho4
  rw [l2] at o2
  rw [l4] at o4
  obtain ⟨a2, c1, rfl⟩ := owns_form o2
  obtain ⟨a4, c2, rfl⟩ := owns_form o4
  obtain ⟨gd, rfl, hc1⟩ := own_cap o2
  obtain ⟨gg, rfl, hc2⟩ := own_cap o4
  have hgd := (o2.lt gd rfl).1
  have hgg := (o4.lt gg rfl).1
  have ys := b2.size
  have hsl1 := fun W n => sl_toVt W (some ⟨gd, 0, none⟩) n c1 o.deps.length (by omega)
  have hsl2 := fun W n => sl_toRt W (some ⟨gg, 0, none⟩) n c2 o.gone.length (by omega)
  -- the boxes behind them
  have x2 := HXY.below b2
  have x4 := HXY.below b4
  have y4 := HY.below b4
  obtain ⟨Z1, hZ1⟩ : ∃ Z, W4.setCell ⟨w.heap.size, 2, none⟩ (.slice (some ⟨gd, 0, none⟩) o.deps.length c1) = Z := ⟨_, rfl⟩
  have z1 : Bx Z1 w.heap.size 30 #[.int .i64 o.ds, .int .i64 o.dq, .slice (some ⟨gd, 0, none⟩) o.deps.length c1, .int .i64 o.kind, .int .i64 o.it, .int .i64 o.is, .int .i64 o.rt, .int .i64 o.rs, .string o.text, .slice ag o.gone.length cg, .int .i64 o.site] := by rw [← hZ1]; simpa using x4.set 2 (.slice (some ⟨gd, 0, none⟩) o.deps.length c1)
  obtain ⟨Z2, hZ2⟩ : ∃ Z, Z1.setCell ⟨w.heap.size, 9, none⟩ (.slice (some ⟨gg, 0, none⟩) o.gone.length c2) = Z := ⟨_, rfl⟩
  have z2 : Bx Z2 w.heap.size 30 #[.int .i64 o.ds, .int .i64 o.dq, .slice (some ⟨gd, 0, none⟩) o.deps.length c1, .int .i64 o.kind, .int .i64 o.it, .int .i64 o.is, .int .i64 o.rt, .int .i64 o.rs, .string o.text, .slice (some ⟨gg, 0, none⟩) o.gone.length c2, .int .i64 o.site] := by rw [← hZ2]; simpa using z1.set 9 (.slice (some ⟨gg, 0, none⟩) o.gone.length c2)
  have kp2 : Kp (fun k => k = w.heap.size) W4 Z2 := by rw [← hZ2, ← hZ1]; exact (Kp.set (N := fun k => k = w.heap.size) W4 ⟨w.heap.size, 2, none⟩ _ rfl).trans (Kp.set (N := fun k => k = w.heap.size) _ ⟨w.heap.size, 9, none⟩ _ rfl) (fun i h => .inl h)
  have yz : Bx Z2 (w.heap.size + 1) 30 #[.int .i64 0, .int .i64 0, .slice none 0 0, .int .i64 0, .int .i64 0, .int .i64 0, .int .i64 0, .int .i64 0, .string ⟨#[]⟩, .slice none 0 0, .int .i64 0] := y4.kp kp2 (by omega)
  have y3 := Bx.set11 (x0 := .int .i64 o.ds) (x1 := .int .i64 o.dq) (x2 := .slice (some ⟨gd, 0, none⟩) o.deps.length c1) (x3 := .int .i64 o.kind) (x4 := .int .i64 o.it) (x5 := .int .i64 o.is) (x6 := .int .i64 o.rt) (x7 := .int .i64 o.rs) (x8 := .string o.text) (x9 := .slice (some ⟨gg, 0, none⟩) o.gone.length c2) (x10 := .int .i64 o.site) yz
  have kp3 := Kp.set11 Z2 (w.heap.size + 1) (.int .i64 o.ds) (.int .i64 o.dq) (.slice (some ⟨gd, 0, none⟩) o.deps.length c1) (.int .i64 o.kind) (.int .i64 o.it) (.int .i64 o.is) (.int .i64 o.rt) (.int .i64 o.rs) (.string o.text) (.slice (some ⟨gg, 0, none⟩) o.gone.length c2) (.int .i64 o.site)
  generalize hZ3 : (((((((((((Z2.setCell ⟨w.heap.size + 1, 0, none⟩ (.int .i64 o.ds)).setCell ⟨w.heap.size + 1, 1, none⟩ (.int .i64 o.dq)).setCell ⟨w.heap.size + 1, 2, none⟩ (.slice (some ⟨gd, 0, none⟩) o.deps.length c1)).setCell ⟨w.heap.size + 1, 3, none⟩ (.int .i64 o.kind)).setCell ⟨w.heap.size + 1, 4, none⟩ (.int .i64 o.it)).setCell ⟨w.heap.size + 1, 5, none⟩ (.int .i64 o.is)).setCell ⟨w.heap.size + 1, 6, none⟩ (.int .i64 o.rt)).setCell ⟨w.heap.size + 1, 7, none⟩ (.int .i64 o.rs)).setCell ⟨w.heap.size + 1, 8, none⟩ (.string o.text)).setCell ⟨w.heap.size + 1, 9, none⟩ (.slice (some ⟨gg, 0, none⟩) o.gone.length c2)).setCell ⟨w.heap.size + 1, 10, none⟩ (.int .i64 o.site)) = Z3 at y3 kp3
  have hw4 : Below w.heap.size w Z3 := kp3.below (kp2.below (bnext bY b4) (fun i e => by omega)) (fun i e => by omega)
  have hYs : w.heap.size + 1 < Y.heap.size := by have := HY.lt; omega
  have htw : Tw Z3 w.heap.size o.deps o.gone gd c1 gg c2 := by
    have h1 := owns_kp (owns_kp o2 kp2 (fun i hi e => by have := (o2.lt i hi).1; omega)) kp3 (fun i hi e => by have := (o2.lt i hi).1; omega)
    have h2 := owns_kp (owns_kp o4 kp2 (fun i hi e => by have := (o4.lt i hi).1; omega)) kp3 (fun i hi e => by have := (o4.lt i hi).1; omega)
    exact ⟨owns_wk h1 (by omega), owns_wk h2 (by omega)⟩
  have HW := hide hw4
  have HT := hide htw
  have Hy3 := hide y3
  obtain ⟨p0, p1, p2, p3, p4, p5, p6, p7, p8, p9, p10⟩ := cells_op HXY
  obtain ⟨q0, q1, q2, q3, q4, q5, q6, q7, q8, q9, q10⟩ := cells_op x2
  obtain ⟨r0, r1, r2, r3, r4, r5, r6, r7, r8, r9, r10⟩ := cells_op x4
  have rf2 := x4.frozen 2
  obtain ⟨s0, s1, s2, s3, s4, s5, s6, s7, s8, s9, s10⟩ := cells_op z1
  have sf9 := z1.frozen 9
  obtain ⟨t0, t1, t2, t3, t4, t5, t6, t7, t8, t9, t10⟩ := cells_op z2
  obtain ⟨u0, u1, u2, u3, u4, u5, u6, u7, u8, u9, u10⟩ := cells_op yz
  have uf0 := yz.frozen 0
  have uf1 := yz.frozen 1
  have uf2 := yz.frozen 2
  have uf3 := yz.frozen 3
  have uf4 := yz.frozen 4
  have uf5 := yz.frozen 5
  have uf6 := yz.frozen 6
  have uf7 := yz.frozen 7
  have uf8 := yz.frozen 8
  have uf9 := yz.frozen 9
  have uf10 := yz.frozen 10
  replace hap1 := hide hap1
  replace hap2 := hide hap2
  replace hap3 := hide hap3
  replace hap4 := hide hap4
  clear HX bX HY bXY bY HXY ho1 hg1 b1 ho2 hg2 b2 ho3 hg3 b23 b3 bV xV ho4 hg4 b24 b4 o2 o4 l2 l4 hc1 hc2 hgd hgg ys x2 x4 y4 z1 z2 kp2 yz y3 kp3 hw4 hYs htw hd hg
  go_enter Tryz.func8, Tryz.ntmps8
  go_wp2_with (at_builtin; first | (have H1 := hap1; clear hap1; refine wpList_append_eq rfl _ _ 25 rfl _ _ _ _ rfl rfl (unhide H1) ?_; clear H1) | (have H2 := hap2; clear hap2; refine wpList_append_eq rfl _ _ 25 rfl _ _ _ _ rfl rfl (unhide H2) ?_; clear H2) | (have H3 := hap3; clear hap3; refine wpList_append_eq rfl _ _ 28 rfl _ _ _ _ rfl rfl (unhide H3) ?_; clear H3) | (have H4 := hap4; clear hap4; refine wpList_append_eq rfl _ _ 28 rfl _ _ _ _ rfl rfl (unhide H4) ?_; clear H4))
  refine bodyPost_ret (results_cell_row rfl _ _ (w.heap.size + 1) _ _ _ _ rfl (unhide Hy3) Tryz.underlying30 rfl sizeO) rfl ?_
  exact ⟨gd, c1, gg, c2, rfl, unhide HT, unhide HW⟩

end Go.Proofs.YtfkdpkckbmbmdaaGreat

/-
  The law's stands: a twin is what it was made of, and its room marked still.
-/
set_option linter.unusedSimpArgs false
set_option linter.unusedVariables false
namespace Go.Proofs.YtfkdpkckbmbmdaaGreat
open Go.RowKit Go.Lib

theorem Tw.capd {W : World} {B : Nat} {deps : List (Int × Int)} {gone : List ((Int × Int) × Int)} {gd cd gg cg : Nat} (h : Tw W B deps gone gd cd gg cg) : deps.length + 1 ≤ cd ∧ gone.length + 1 ≤ cg := by
  obtain ⟨_, _, h1⟩ := own_cap h.d
  obtain ⟨_, _, h2⟩ := own_cap h.g
  exact ⟨h1, h2⟩
theorem Tw.md {W : World} {B : Nat} {deps : List (Int × Int)} {gone : List ((Int × Int) × Int)} {gd cd gg cg : Nat} (h : Tw W B deps gone gd cd gg cg) : W.cell? ⟨gd, deps.length * 2, none⟩ = some (.int .i64 77) ∧ W.cell? ⟨gd, deps.length * 2 + 1, none⟩ = some (.int .i64 77) ∧ W.cell? ⟨gg, gone.length * 3 + 2, none⟩ = some (.int .i64 77) := by
  have hx : (deps ++ [((77 : Int), (77 : Int))])[deps.length]? = some (77, 77) := by simp
  have hy : (gone ++ [(((0 : Int), (0 : Int)), (77 : Int))])[gone.length]? = some ((0, 0), 77) := by simp
  have h0 := h.d.cellAt (deps.length * 2) (by omega)
  have h1 := h.d.cellAt (deps.length * 2 + 1) (by omega)
  have h2 := h.g.cellAt (gone.length * 3 + 2) (by omega)
  rw [show deps.length * 2 = deps.length * 2 + 0 from rfl, flat_get encI_len _ deps.length 0 _ hx (by omega)] at h0
  rw [flat_get encI_len _ deps.length 1 _ hx (by omega)] at h1
  rw [flat_get encR_len _ gone.length 2 _ hy (by omega)] at h2
  exact ⟨h0, h1, h2⟩

set_option maxRecDepth 100000 in
set_option maxHeartbeats 8000000 in
theorem stands_in (o : Opn) (ad ag : Option Addr) (cd cg : Nat) (B gd c1 gg c2 : Nat) (w : World) (ht : Tw w B o.deps o.gone gd c1 gg c2) (hd : RI w (.slice ad o.deps.length cd) o.deps) (hg : RR w (.slice ag o.gone.length cg) o.gone) (hs1 : o.deps.length ≤ 100000) (hs2 : o.gone.length ≤ 100000) :
    Calls Tryz.prog 13 #[.agg #[.int .i64 o.ds, .int .i64 o.dq, .slice (some ⟨gd, 0, none⟩) o.deps.length c1, .int .i64 o.kind, .int .i64 o.it, .int .i64 o.is, .int .i64 o.rt, .int .i64 o.rs, .string o.text, .slice (some ⟨gg, 0, none⟩) o.gone.length c2, .int .i64 o.site], .agg #[.int .i64 o.ds, .int .i64 o.dq, .slice ad o.deps.length cd, .int .i64 o.kind, .int .i64 o.it, .int .i64 o.is, .int .i64 o.rt, .int .i64 o.rs, .string o.text, .slice ag o.gone.length cg, .int .i64 o.site]] w fun e W => e = .returned (.bool true) ∧ Below w.heap.size w W := by
  obtain ⟨X, hX⟩ : ∃ X, w.alloc (.cells #[.int .i64 o.ds, .int .i64 o.dq, .slice (some ⟨gd, 0, none⟩) o.deps.length c1, .int .i64 o.kind, .int .i64 o.it, .int .i64 o.is, .int .i64 o.rt, .int .i64 o.rs, .string o.text, .slice (some ⟨gg, 0, none⟩) o.gone.length c2, .int .i64 o.site] 30) = X := ⟨_, rfl⟩
  have HX : Bx X w.heap.size 30 #[.int .i64 o.ds, .int .i64 o.dq, .slice (some ⟨gd, 0, none⟩) o.deps.length c1, .int .i64 o.kind, .int .i64 o.it, .int .i64 o.is, .int .i64 o.rt, .int .i64 o.rs, .string o.text, .slice (some ⟨gg, 0, none⟩) o.gone.length c2, .int .i64 o.site] := by rw [← hX]; exact Bx.new w _ _
  have bX : Below w.heap.size w X := by rw [← hX]; exact ballc (Below.refl _ _) _
  have hxs : X.heap.size = w.heap.size + 1 := by rw [← hX]; simp
  obtain ⟨Y, hY⟩ : ∃ Y, X.alloc (.cells #[.int .i64 o.ds, .int .i64 o.dq, .slice ad o.deps.length cd, .int .i64 o.kind, .int .i64 o.it, .int .i64 o.is, .int .i64 o.rt, .int .i64 o.rs, .string o.text, .slice ag o.gone.length cg, .int .i64 o.site] 30) = Y := ⟨_, rfl⟩
  have HY : Bx Y X.heap.size 30 #[.int .i64 o.ds, .int .i64 o.dq, .slice ad o.deps.length cd, .int .i64 o.kind, .int .i64 o.it, .int .i64 o.is, .int .i64 o.rt, .int .i64 o.rs, .string o.text, .slice ag o.gone.length cg, .int .i64 o.site] := by rw [← hY]; exact Bx.new X _ _
  have bXY : Below X.heap.size X Y := by rw [← hY]; exact ballc (Below.refl _ _) _
  have bY := bnext bX bXY
  have HXY := HX.below bXY

  have HSm := hide (same_in o o _ _ _ _ Y (ht.below bY).ri (ht.below bY).rr (hd.below bY) (RC.below hg bY) (by omega) (by omega))
  rw [(sameB_iff o o).2 rfl] at HSm
  unfold opA at HSm
  have HT := hide (fun (W : World) (h : Below Y.heap.size Y W) => (ht.below bY).below h)
  have HA := hide (fun (W : World) (h : Below Y.heap.size Y W) => HXY.below h)
  obtain ⟨hc1, hc2⟩ := ht.capd
  have hsl1 := fun W n => sl_toVt W (some ⟨gd, 0, none⟩) n c1 (o.deps.length + 1) hc1
  have hsl2 := fun W n => sl_toRt W (some ⟨gg, 0, none⟩) n c2 (o.gone.length + 1) hc2
  have heq : ∀ w, (binOp .eql 23 (.agg #[.int .i64 77, .int .i64 77]) (.agg #[.int .i64 77, .int .i64 77])).run Tryz.prog w = .ok (.bool true) w := fun w => by rw [eqD]; simp
  obtain ⟨p0, p1, p2, p3, p4, p5, p6, p7, p8, p9, p10⟩ := cells_op HXY
  obtain ⟨q0, q1, q2, q3, q4, q5, q6, q7, q8, q9, q10⟩ := cells_op HY
  obtain ⟨n, hn⟩ : ∃ n, o.deps.length = n := ⟨_, rfl⟩
  obtain ⟨k, hk⟩ : ∃ k, o.gone.length = k := ⟨_, rfl⟩
  have HB := hide bY
  have Hn := hide hn
  have Hk := hide hk
  rw [hn] at hs1 hsl1 p2 q2 HSm HA hX hY ⊢
  rw [hk] at hs2 hsl2 p9 q9 HSm HA hX hY ⊢
  have e1 : ((n + 1 : Nat) : Int) = (n : Int) + 1 := by omega
  have e2 : ((k + 1 : Nat) : Int) = (k : Int) + 1 := by omega
  simp only [e1] at hsl1
  simp only [e2] at hsl2
  clear HX bX bXY bY HXY HY ht hd hg hc1 hc2 hn hk hxs e1 e2
  go_enter Tryz.func13, Tryz.ntmps13
  go_wp2_with fail
  refine (unhide HSm).mono ?_
  rintro e W1 ⟨rfl, hb1⟩
  have ht1 := unhide HT W1 hb1
  obtain ⟨m0, m1, m2⟩ := ht1.md
  rw [unhide Hn] at m0 m1
  rw [unhide Hk] at m2
  obtain ⟨r0, r1, r2, r3, r4, r5, r6, r7, r8, r9, r10⟩ := cells_op (unhide HA W1 hb1)
  have HB1 := hide (bnext (unhide HB) hb1)
  clear hb1 ht1 HSm HT HA p0 p1 p2 p3 p4 p5 p6 p7 p8 p9 p10 q0 q1 q2 q3 q4 q5 q6 q7 q8 q9 q10
  go_wp2
  go_ret
  exact ⟨rfl, unhide HB1⟩

theorem array3 {α : Type} {cs : Array α} (h : cs.size = 3) : ∃ c0 c1 c2, cs = #[c0, c1, c2] := by
  obtain ⟨l⟩ := cs
  match l, h with
  | [c0, c1, c2], _ => exact ⟨c0, c1, c2, rfl⟩
set_option maxRecDepth 100000 in
theorem open_run {H : Type} {enc : TypeId × Value → H} {w : World} {base b0 : Nat} {spare : Nat → Bool} {held : Bool} {r : Reach} {v : Value} {d : DataW H} {p : List MemPlace}
    (hv : Value.okWide Tryz.prog w r b0 32 v) (h : DataW.Trod enc Tryz.prog w base spare held 32 v d p) : ∃ t s c, v = .agg #[.int .i64 t, .int .i64 s, .int .i64 c] ∧ runIn ((t, s), c) := by
  obtain ⟨cs, rfl, hsz⟩ := Go.WideShapes.okWide_struct Tryz.underlying32 hv
  have hC : Tryz.prog.cellsOf 32 = 3 := by kernel_rfl
  obtain ⟨c0, c1, c2, rfl⟩ := array3 (hsz.trans hC)
  obtain ⟨fuel, hf⟩ := h
  obtain ⟨xs, n, _, _, _, hxl, hfs⟩ := DataW.trod_struct Tryz.underlying32 hf
  have hx : ∀ i, i < 2 → ∃ y, xs[i]? = some y := fun i hi => ⟨xs[i]'(by rw [hxl]; exact hi), List.getElem?_eq_getElem _⟩
  have ci : Tryz.prog.cellsOf 3 = 1 := by kernel_rfl
  have cI : Tryz.prog.cellsOf 27 = 2 := by kernel_rfl
  obtain ⟨y0, e0⟩ := hx 0 (by omega)
  have g0 := (hfs 0 _ rfl).trans e0
  obtain ⟨y1, e1⟩ := hx 1 (by omega)
  have g1 := (hfs 1 _ rfl).trans e1
  simp [Value.cells] at g0
  rw [cI] at g0
  try simp at g0
  simp [Value.cells] at g1
  rw [ci] at g1
  try simp at g1
  obtain ⟨a0, a1, rfl, rfl, w0, w1⟩ := open_two ⟨_, _, Tryz.underlying27, rfl, rfl, rfl, rfl⟩ g0
  obtain ⟨a3, q3, _, w3⟩ := DataW.trod_int Tryz.underlying3 g1
  simp only [List.cons.injEq, and_true] at q3
  subst q3
  exact ⟨a0, a1, a3, rfl, ⟨w0, w1⟩, wf64 w3⟩

end Go.Proofs.YtfkdpkckbmbmdaaGreat

/-
  A twin's lists with one thing turned.
-/
set_option linter.unusedSimpArgs false
set_option linter.unusedVariables false
namespace Go.Proofs.YtfkdpkckbmbmdaaGreat
open Go.RowKit Go.Lib

theorem flat_setI2 : ∀ (M : List (Int × Int)) (k : Nat) (y : Int × Int), ((flat encI M).set (k * 2) (.int .i64 y.1)).set (k * 2 + 1) (.int .i64 y.2) = flat encI (M.set k y)
  | [], k, y => by simp [flat]
  | x :: M, 0, y => by simp [flat, encI]
  | x :: M, k + 1, y => by
    have ih := flat_setI2 M k y
    rw [List.set_cons_succ, flat_cons, flat_cons, ← ih, show (k + 1) * 2 = k * 2 + 1 + 1 by omega]
    rfl
theorem flat_setR3 : ∀ (M : List ((Int × Int) × Int)) (k : Nat) (y : (Int × Int) × Int), (((flat encR M).set (k * 3) (.int .i64 y.1.1)).set (k * 3 + 1) (.int .i64 y.1.2)).set (k * 3 + 2) (.int .i64 y.2) = flat encR (M.set k y)
  | [], k, y => by simp [flat]
  | x :: M, 0, y => by simp [flat, encR]
  | x :: M, k + 1, y => by
    have ih := flat_setR3 M k y
    rw [List.set_cons_succ, flat_cons, flat_cons, ← ih, show (k + 1) * 3 = k * 3 + 1 + 1 + 1 by omega]
    rfl
theorem Tw.ne {W : World} {B : Nat} {deps : List (Int × Int)} {gone : List ((Int × Int) × Int)} {gd cd gg cg : Nat} (h : Tw W B deps gone gd cd gg cg) : gd ≠ gg := fun e => by
  obtain ⟨_, (⟨e1, _⟩ | ⟨g, cap, cur, e1, _, hg, _⟩)⟩ := h.d
  · cases e1
  obtain ⟨_, (⟨e2, _⟩ | ⟨g2, cap2, cur2, e2, _, hg2, _⟩)⟩ := h.g
  · cases e2
  simp at e1 e2
  obtain ⟨rfl, _⟩ := e1
  obtain ⟨rfl, _⟩ := e2
  rw [e] at hg
  rw [hg] at hg2
  simp at hg2
theorem Tw.cells {W : World} {B : Nat} {deps : List (Int × Int)} {gone : List ((Int × Int) × Int)} {gd cd gg cg : Nat} (h : Tw W B deps gone gd cd gg cg) :
    (B ≤ gd ∧ gd < W.heap.size ∧ B ≤ gg ∧ gg < W.heap.size) ∧ (∀ j, j < deps.length * 2 → ∃ x, W.cell? ⟨gd, j, none⟩ = some x) ∧ (∀ j, W.frozen? ⟨gd, j, none⟩ = false) ∧ (∀ j, j < gone.length * 3 → ∃ x, W.cell? ⟨gg, j, none⟩ = some x) ∧ ∀ j, W.frozen? ⟨gg, j, none⟩ = false := by
  obtain ⟨_, (⟨e1, _⟩ | ⟨g, cap, cur, e1, hb, hg, hc1, hc2, hc3, hc4⟩)⟩ := h.d
  · cases e1
  obtain ⟨_, (⟨e2, _⟩ | ⟨g2, cap2, cur2, e2, hb2, hg2, hk1, hk2, hk3, hk4⟩)⟩ := h.g
  · cases e2
  simp at e1 e2
  obtain ⟨rfl, rfl⟩ := e1
  obtain ⟨rfl, rfl⟩ := e2
  have hx : Bx W gd 23 cur := hg
  have hy : Bx W gg 32 cur2 := hg2
  refine ⟨⟨hb, hx.lt, hb2, hy.lt⟩, fun j hj => ⟨cur[j]'(by omega), hx.cell _ _ (Array.getElem?_eq_getElem (by omega))⟩, fun j => hx.frozen j, fun j hj => ⟨cur2[j]'(by omega), hy.cell _ _ (Array.getElem?_eq_getElem (by omega))⟩, fun j => hy.frozen j⟩
theorem Tw.setd {W : World} {B : Nat} {deps : List (Int × Int)} {gone : List ((Int × Int) × Int)} {gd cd gg cg : Nat} (h : Tw W B deps gone gd cd gg cg) {k : Nat} (hk : k < deps.length) (d1 d2 : Int) :
    Tw ((W.setCell ⟨gd, k * 2, none⟩ (.int .i64 d1)).setCell ⟨gd, k * 2 + 1, none⟩ (.int .i64 d2)) B (deps.set k (d1, d2)) gone gd cd gg cg := by
  have hne := h.ne
  have hkp : Kp (fun j => j = gd) W ((W.setCell ⟨gd, k * 2, none⟩ (.int .i64 d1)).setCell ⟨gd, k * 2 + 1, none⟩ (.int .i64 d2)) := (Kp.set (N := fun j => j = gd) W ⟨gd, k * 2, none⟩ _ rfl).trans (Kp.set (N := fun j => j = gd) _ ⟨gd, k * 2 + 1, none⟩ _ rfl) (fun j e => .inl e)
  refine ⟨?_, owns_kp h.g hkp (fun i hi e => by simp [Value.ownBlock] at hi; omega)⟩
  obtain ⟨h1, (⟨e1, _⟩ | ⟨g, cap, cur, e1, hb, hg, hc1, hc2, hc3, hc4⟩)⟩ := h.d
  · cases e1
  simp at e1
  obtain ⟨rfl, rfl⟩ := e1
  have hx : Bx W gd 23 cur := hg
  have h3 := (hx.set (k * 2) (.int .i64 d1)).set (k * 2 + 1) (.int .i64 d2)
  rw [List.length_set]
  have hset : (deps ++ [((77 : Int), (77 : Int))]).set k (d1, d2) = deps.set k (d1, d2) ++ [(77, 77)] := List.set_append_left _ _ hk
  refine ⟨?_, .inr ⟨gd, cd, _, rfl, hb, h3, hc1, hc2, by simpa using hc3, ?_⟩⟩
  · rw [flat_len encI_len, List.length_append, List.length_set]; rfl
  · rw [← hset, ← flat_setI2]
    simp only [Array.toList_setIfInBounds]
    rw [← hc4, List.take_set, List.take_set]
theorem Tw.setg {W : World} {B : Nat} {deps : List (Int × Int)} {gone : List ((Int × Int) × Int)} {gd cd gg cg : Nat} (h : Tw W B deps gone gd cd gg cg) {k : Nat} (hk : k < gone.length) (t s c : Int) :
    Tw (((W.setCell ⟨gg, k * 3, none⟩ (.int .i64 t)).setCell ⟨gg, k * 3 + 1, none⟩ (.int .i64 s)).setCell ⟨gg, k * 3 + 2, none⟩ (.int .i64 c)) B deps (gone.set k ((t, s), c)) gd cd gg cg := by
  have hne := h.ne
  have hkp : Kp (fun j => j = gg) W (((W.setCell ⟨gg, k * 3, none⟩ (.int .i64 t)).setCell ⟨gg, k * 3 + 1, none⟩ (.int .i64 s)).setCell ⟨gg, k * 3 + 2, none⟩ (.int .i64 c)) := ((Kp.set (N := fun j => j = gg) W ⟨gg, k * 3, none⟩ _ rfl).trans (Kp.set (N := fun j => j = gg) _ ⟨gg, k * 3 + 1, none⟩ _ rfl) (fun j e => .inl e)).trans (Kp.set (N := fun j => j = gg) _ ⟨gg, k * 3 + 2, none⟩ _ rfl) (fun j e => .inl e)
  refine ⟨owns_kp h.d hkp (fun i hi e => by simp [Value.ownBlock] at hi; omega), ?_⟩
  obtain ⟨h1, (⟨e1, _⟩ | ⟨g, cap, cur, e1, hb, hg, hc1, hc2, hc3, hc4⟩)⟩ := h.g
  · cases e1
  simp at e1
  obtain ⟨rfl, rfl⟩ := e1
  have hx : Bx W gg 32 cur := hg
  have h3 := ((hx.set (k * 3) (.int .i64 t)).set (k * 3 + 1) (.int .i64 s)).set (k * 3 + 2) (.int .i64 c)
  rw [List.length_set]
  have hset : (gone ++ [(((0 : Int), (0 : Int)), (77 : Int))]).set k ((t, s), c) = gone.set k ((t, s), c) ++ [((0, 0), 77)] := List.set_append_left _ _ hk
  refine ⟨?_, .inr ⟨gg, cg, _, rfl, hb, h3, hc1, hc2, by simpa using hc3, ?_⟩⟩
  · rw [flat_len encR_len, List.length_append, List.length_set]; rfl
  · rw [← hset, ← flat_setR3]
    simp only [Array.toList_setIfInBounds]
    rw [← hc4, List.take_set, List.take_set, List.take_set]
theorem InO.setd {o : Opn} (h : InO o) (k : Nat) (x : Int × Int) : InO { o with deps := o.deps.set k x } :=
  ⟨h.ds, h.dq, h.kind, h.it, h.is, h.rt, h.rs, h.site, by show (o.deps.set k x).length ≤ _; rw [List.length_set]; exact h.deps, h.text, h.gone, h.many⟩
theorem InO.setg {o : Opn} (h : InO o) (k : Nat) {x : (Int × Int) × Int} (hx : runIn x) : InO { o with gone := o.gone.set k x } :=
  ⟨h.ds, h.dq, h.kind, h.it, h.is, h.rt, h.rs, h.site, h.deps, h.text, fun r hr => by
    rcases List.mem_or_eq_of_mem_set hr with hr | rfl
    · exact h.gone r hr
    · exact hx, by show (o.gone.set k x).length ≤ _; rw [List.length_set]; exact h.many⟩

end Go.Proofs.YtfkdpkckbmbmdaaGreat
