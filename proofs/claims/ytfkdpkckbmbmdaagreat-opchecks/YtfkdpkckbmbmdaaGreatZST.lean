/-
  The law's stands: a twin is what it was made of, and its room marked still.
-/
import Derived.Test.YtfkdpkckbmbmdaaGreatZTW
import Derived.Test.YtfkdpkckbmbmdaaGreatZQ5
set_option linter.unusedSimpArgs false
set_option linter.unusedVariables false
namespace Go.Proofs.YtfkdpkckbmbmdaaGreat
open Go.RowKit Go.Lib

theorem Tw.capd {W : World} {B : Nat} {deps : List (Int × Int)} {gone : List ((Int × Int) × Int)} {gd cd gg cg : Nat} (h : Tw W B deps gone gd cd gg cg) : deps.length + 1 ≤ cd ∧ gone.length + 1 ≤ cg := by
  obtain ⟨_, _, h1⟩ := own_cap h.d
  obtain ⟨_, _, h2⟩ := own_cap h.g
  exact ⟨h1, h2⟩
theorem Tw.md {W : World} {B : Nat} {deps : List (Int × Int)} {gone : List ((Int × Int) × Int)} {gd cd gg cg : Nat} (h : Tw W B deps gone gd cd gg cg) : W.cell? ⟨gd, deps.length * 2, none⟩ = some (.int .i64 77) ∧ W.cell? ⟨gd, deps.length * 2 + 1, none⟩ = some (.int .i64 77) ∧ W.cell? ⟨gg, gone.length * 3 + 2, none⟩ = some (.int .i64 77) := by
  have hx : (deps ++ [((77 : Int), (77 : Int))])[deps.length]? = some (77, 77) := by simp
  have hy : (gone ++ [(((0 : Int), (0 : Int)), (77 : Int))])[gone.length]? = some ((0, 0), 77) := by simp
  have h0 := h.d.cellAt (deps.length * 2) (by omega)
  have h1 := h.d.cellAt (deps.length * 2 + 1) (by omega)
  have h2 := h.g.cellAt (gone.length * 3 + 2) (by omega)
  rw [show deps.length * 2 = deps.length * 2 + 0 from rfl, flat_get encI_len _ deps.length 0 _ hx (by omega)] at h0
  rw [flat_get encI_len _ deps.length 1 _ hx (by omega)] at h1
  rw [flat_get encR_len _ gone.length 2 _ hy (by omega)] at h2
  exact ⟨h0, h1, h2⟩

set_option maxRecDepth 100000 in
set_option maxHeartbeats 8000000 in
theorem stands_in (o : Opn) (ad ag : Option Addr) (cd cg : Nat) (B gd c1 gg c2 : Nat) (w : World) (ht : Tw w B o.deps o.gone gd c1 gg c2) (hd : RI w (.slice ad o.deps.length cd) o.deps) (hg : RR w (.slice ag o.gone.length cg) o.gone) (hs1 : o.deps.length ≤ 100000) (hs2 : o.gone.length ≤ 100000) :
    Calls Tryz.prog 13 #[.agg #[.int .i64 o.ds, .int .i64 o.dq, .slice (some ⟨gd, 0, none⟩) o.deps.length c1, .int .i64 o.kind, .int .i64 o.it, .int .i64 o.is, .int .i64 o.rt, .int .i64 o.rs, .string o.text, .slice (some ⟨gg, 0, none⟩) o.gone.length c2, .int .i64 o.site], .agg #[.int .i64 o.ds, .int .i64 o.dq, .slice ad o.deps.length cd, .int .i64 o.kind, .int .i64 o.it, .int .i64 o.is, .int .i64 o.rt, .int .i64 o.rs, .string o.text, .slice ag o.gone.length cg, .int .i64 o.site]] w fun e W => e = .returned (.bool true) ∧ Below w.heap.size w W := by
  obtain ⟨X, hX⟩ : ∃ X, w.alloc (.cells #[.int .i64 o.ds, .int .i64 o.dq, .slice (some ⟨gd, 0, none⟩) o.deps.length c1, .int .i64 o.kind, .int .i64 o.it, .int .i64 o.is, .int .i64 o.rt, .int .i64 o.rs, .string o.text, .slice (some ⟨gg, 0, none⟩) o.gone.length c2, .int .i64 o.site] 30) = X := ⟨_, rfl⟩
  have HX : Bx X w.heap.size 30 #[.int .i64 o.ds, .int .i64 o.dq, .slice (some ⟨gd, 0, none⟩) o.deps.length c1, .int .i64 o.kind, .int .i64 o.it, .int .i64 o.is, .int .i64 o.rt, .int .i64 o.rs, .string o.text, .slice (some ⟨gg, 0, none⟩) o.gone.length c2, .int .i64 o.site] := by rw [← hX]; exact Bx.new w _ _
  have bX : Below w.heap.size w X := by rw [← hX]; exact ballc (Below.refl _ _) _
  have hxs : X.heap.size = w.heap.size + 1 := by rw [← hX]; simp
  obtain ⟨Y, hY⟩ : ∃ Y, X.alloc (.cells #[.int .i64 o.ds, .int .i64 o.dq, .slice ad o.deps.length cd, .int .i64 o.kind, .int .i64 o.it, .int .i64 o.is, .int .i64 o.rt, .int .i64 o.rs, .string o.text, .slice ag o.gone.length cg, .int .i64 o.site] 30) = Y := ⟨_, rfl⟩
  have HY : Bx Y X.heap.size 30 #[.int .i64 o.ds, .int .i64 o.dq, .slice ad o.deps.length cd, .int .i64 o.kind, .int .i64 o.it, .int .i64 o.is, .int .i64 o.rt, .int .i64 o.rs, .string o.text, .slice ag o.gone.length cg, .int .i64 o.site] := by rw [← hY]; exact Bx.new X _ _
  have bXY : Below X.heap.size X Y := by rw [← hY]; exact ballc (Below.refl _ _) _
  have bY := bnext bX bXY
  have HXY := HX.below bXY

  have HSm := hide (same_in o o _ _ _ _ Y (ht.below bY).ri (ht.below bY).rr (hd.below bY) (RC.below hg bY) (by omega) (by omega))
  rw [(sameB_iff o o).2 rfl] at HSm
  unfold opA at HSm
  have HT := hide (fun (W : World) (h : Below Y.heap.size Y W) => (ht.below bY).below h)
  have HA := hide (fun (W : World) (h : Below Y.heap.size Y W) => HXY.below h)
  obtain ⟨hc1, hc2⟩ := ht.capd
  have hsl1 := fun W n => sl_toVt W (some ⟨gd, 0, none⟩) n c1 (o.deps.length + 1) hc1
  have hsl2 := fun W n => sl_toRt W (some ⟨gg, 0, none⟩) n c2 (o.gone.length + 1) hc2
  have heq : ∀ w, (binOp .eql 23 (.agg #[.int .i64 77, .int .i64 77]) (.agg #[.int .i64 77, .int .i64 77])).run Tryz.prog w = .ok (.bool true) w := fun w => by rw [eqD]; simp
  obtain ⟨p0, p1, p2, p3, p4, p5, p6, p7, p8, p9, p10⟩ := cells_op HXY
  obtain ⟨q0, q1, q2, q3, q4, q5, q6, q7, q8, q9, q10⟩ := cells_op HY
  obtain ⟨n, hn⟩ : ∃ n, o.deps.length = n := ⟨_, rfl⟩
  obtain ⟨k, hk⟩ : ∃ k, o.gone.length = k := ⟨_, rfl⟩
  have HB := hide bY
  have Hn := hide hn
  have Hk := hide hk
  rw [hn] at hs1 hsl1 p2 q2 HSm HA hX hY ⊢
  rw [hk] at hs2 hsl2 p9 q9 HSm HA hX hY ⊢
  have e1 : ((n + 1 : Nat) : Int) = (n : Int) + 1 := by omega
  have e2 : ((k + 1 : Nat) : Int) = (k : Int) + 1 := by omega
  simp only [e1] at hsl1
  simp only [e2] at hsl2
  clear HX bX bXY bY HXY HY ht hd hg hc1 hc2 hn hk hxs e1 e2
  go_enter Tryz.func13, Tryz.ntmps13
  go_wp2_with fail
  refine (unhide HSm).mono ?_
  rintro e W1 ⟨rfl, hb1⟩
  have ht1 := unhide HT W1 hb1
  obtain ⟨m0, m1, m2⟩ := ht1.md
  rw [unhide Hn] at m0 m1
  rw [unhide Hk] at m2
  obtain ⟨r0, r1, r2, r3, r4, r5, r6, r7, r8, r9, r10⟩ := cells_op (unhide HA W1 hb1)
  have HB1 := hide (bnext (unhide HB) hb1)
  clear hb1 ht1 HSm HT HA p0 p1 p2 p3 p4 p5 p6 p7 p8 p9 p10 q0 q1 q2 q3 q4 q5 q6 q7 q8 q9 q10
  go_wp2
  go_ret
  exact ⟨rfl, unhide HB1⟩

theorem array3 {α : Type} {cs : Array α} (h : cs.size = 3) : ∃ c0 c1 c2, cs = #[c0, c1, c2] := by
  obtain ⟨l⟩ := cs
  match l, h with
  | [c0, c1, c2], _ => exact ⟨c0, c1, c2, rfl⟩
set_option maxRecDepth 100000 in
theorem open_run {H : Type} {enc : TypeId × Value → H} {w : World} {base b0 : Nat} {spare : Nat → Bool} {held : Bool} {r : Reach} {v : Value} {d : DataW H} {p : List MemPlace}
    (hv : Value.okWide Tryz.prog w r b0 32 v) (h : DataW.Trod enc Tryz.prog w base spare held 32 v d p) : ∃ t s c, v = .agg #[.int .i64 t, .int .i64 s, .int .i64 c] ∧ runIn ((t, s), c) := by
  obtain ⟨cs, rfl, hsz⟩ := Go.WideShapes.okWide_struct Tryz.underlying32 hv
  have hC : Tryz.prog.cellsOf 32 = 3 := by kernel_rfl
  obtain ⟨c0, c1, c2, rfl⟩ := array3 (hsz.trans hC)
  obtain ⟨fuel, hf⟩ := h
  obtain ⟨xs, n, _, _, _, hxl, hfs⟩ := DataW.trod_struct Tryz.underlying32 hf
  have hx : ∀ i, i < 2 → ∃ y, xs[i]? = some y := fun i hi => ⟨xs[i]'(by rw [hxl]; exact hi), List.getElem?_eq_getElem _⟩
  have ci : Tryz.prog.cellsOf 3 = 1 := by kernel_rfl
  have cI : Tryz.prog.cellsOf 27 = 2 := by kernel_rfl
  obtain ⟨y0, e0⟩ := hx 0 (by omega)
  have g0 := (hfs 0 _ rfl).trans e0
  obtain ⟨y1, e1⟩ := hx 1 (by omega)
  have g1 := (hfs 1 _ rfl).trans e1
  simp [Value.cells] at g0
  rw [cI] at g0
  try simp at g0
  simp [Value.cells] at g1
  rw [ci] at g1
  try simp at g1
  obtain ⟨a0, a1, rfl, rfl, w0, w1⟩ := open_two ⟨_, _, Tryz.underlying27, rfl, rfl, rfl, rfl⟩ g0
  obtain ⟨a3, q3, _, w3⟩ := DataW.trod_int Tryz.underlying3 g1
  simp only [List.cons.injEq, and_true] at q3
  subst q3
  exact ⟨a0, a1, a3, rfl, ⟨w0, w1⟩, wf64 w3⟩

end Go.Proofs.YtfkdpkckbmbmdaaGreat
