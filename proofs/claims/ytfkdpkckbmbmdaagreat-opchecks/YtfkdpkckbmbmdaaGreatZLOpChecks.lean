/-
  Chapter 8's law OpChecks returns true for every operation, every dot, every run and every number, and leaves its arguments as they were; no condition.
-/
import Derived.Test.YtfkdpkckbmbmdaaGreatRows
import Derived.WalkKit
import Derived.ProofKit
import Derived.OpenShut
import Derived.ShutString
import Derived.ChangeOld
import Derived.Below
import Derived.Test.YtfkdpkckbmbmdaaGreatZXT
import Derived.Test.YtfkdpkckbmbmdaaGreatZXP7
import Derived.Test.YtfkdpkckbmbmdaaGreatZQ4
import Derived.Test.YtfkdpkckbmbmdaaGreatZQ5
import Derived.Deep.CutRange
set_option linter.unusedVariables false
set_option linter.unusedSimpArgs false
namespace Go.Proofs.YtfkdpkckbmbmdaaGreat
namespace LOpChecks
open Go.ChangeShapes Go.WideShapes Go.ChangeAt Go.RowKit Go.Lib
open Go.ChangeMaps (open_string shut_string)

set_option maxRecDepth 100000 in
set_option maxHeartbeats 16000000 in
theorem walk (o : Opn) (ad ag : Option Addr) (cd cg : Nat) (d1 d2 r1 r2 r3 iv : Int) (w : World) (w0 : RI w (.slice ad o.deps.length cd) o.deps ∧ RR w (.slice ag o.gone.length cg) o.gone ∧ InA o) (w1 : idIn (d1, d2)) (w2 : runIn ((r1, r2), r3)) (w3 : (Lit.int .i64 iv).wf = true) :
    Calls Tryz.prog 3 #[opA o (.slice ad o.deps.length cd) (.slice ag o.gone.length cg), .agg #[.int .i64 d1, .int .i64 d2], .agg #[.int .i64 r1, .int .i64 r2, .int .i64 r3], .int .i64 iv] w fun e W => e = .returned (.bool true) ∧ Below w.heap.size w W := by
  obtain ⟨hd, hg, hi⟩ := w0
  obtain ⟨hiv1, hiv2⟩ := wf64 w3
  clear w3
  obtain ⟨X1, hX1⟩ : ∃ X, w.alloc (.cells #[.int .i64 o.ds, .int .i64 o.dq, .slice ad o.deps.length cd, .int .i64 o.kind, .int .i64 o.it, .int .i64 o.is, .int .i64 o.rt, .int .i64 o.rs, .string o.text, .slice ag o.gone.length cg, .int .i64 o.site] 30) = X := ⟨_, rfl⟩
  have x1 : Bx X1 w.heap.size 30 #[.int .i64 o.ds, .int .i64 o.dq, .slice ad o.deps.length cd, .int .i64 o.kind, .int .i64 o.it, .int .i64 o.is, .int .i64 o.rt, .int .i64 o.rs, .string o.text, .slice ag o.gone.length cg, .int .i64 o.site] := by rw [← hX1]; exact Bx.new w _ _
  have bX1 : Below w.heap.size w X1 := by rw [← hX1]; exact ballc (Below.refl _ _) _
  obtain ⟨X2, hX2⟩ : ∃ X, X1.alloc (.cells #[.int .i64 d1, .int .i64 d2] 23) = X := ⟨_, rfl⟩
  have x2 : Bx X2 X1.heap.size 23 #[.int .i64 d1, .int .i64 d2] := by rw [← hX2]; exact Bx.new X1 _ _
  have bX12 : Below X1.heap.size X1 X2 := by rw [← hX2]; exact ballc (Below.refl _ _) _
  obtain ⟨X, hX⟩ : ∃ X, X2.alloc (.cells #[.int .i64 r1, .int .i64 r2, .int .i64 r3] 32) = X := ⟨_, rfl⟩
  have x3 : Bx X X2.heap.size 32 #[.int .i64 r1, .int .i64 r2, .int .i64 r3] := by rw [← hX]; exact Bx.new X2 _ _
  have bX23 : Below X2.heap.size X2 X := by rw [← hX]; exact ballc (Below.refl _ _) _
  have bX : Below w.heap.size w X := bnext (bnext bX1 bX12) bX23
  have y1 := (x1.below bX12).below bX23
  have y2 := x2.below bX23
  have hlt1 := x1.lt
  have hlt2 := x2.lt
  have hlt3 := x3.lt
  have HK := hide (fun W => known_in W)
  have HL := hide (fun W => long_in o ad ag cd cg W hi.text)
  have B0 := hide bX
  obtain ⟨p0, p1, p2, p3, p4, p5, p6, p7, p8, p9, p10⟩ := cells_op y1
  cases hlo : longO o
  rotate_left
  · rw [hlo] at HL
    unfold opA at HL ⊢
    clear hlo x1 bX1 x2 bX12 x3 bX23 bX y1 y2 hd hg hi
    go_enter Tryz.func3, Tryz.ntmps3
    go_wp2_with fail
    refine (unhide HL _).mono ?_
    rintro r W1 ⟨rfl, hb⟩
    replace B0 := hide (bnext (unhide B0) hb)
    clear hb
    go_wp2_with fail
    refine (unhide HK _).mono ?_
    rintro r W2 ⟨rfl, hb⟩
    replace B0 := hide (bnext (unhide B0) hb)
    go_wp2
    go_ret
    exact ⟨rfl, unhide B0⟩
  rw [hlo] at HL
  have hin : InO o := by
    unfold longO at hlo
    simp at hlo
    exact hi.fit (by omega) (by omega) (by omega)
  have hsm : o.deps.length ≤ 3000 ∧ o.gone.length ≤ 3000 ∧ o.text.size ≤ 60000 := by unfold longO at hlo; simp at hlo; omega
  obtain ⟨hs1, hs2, hs3⟩ := hsm
  have HA := hide (fun (W : World) (h : Below X.heap.size X W) => show (Bx W w.heap.size 30 #[.int .i64 o.ds, .int .i64 o.dq, .slice ad o.deps.length cd, .int .i64 o.kind, .int .i64 o.it, .int .i64 o.is, .int .i64 o.rt, .int .i64 o.rs, .string o.text, .slice ag o.gone.length cg, .int .i64 o.site] ∧ Bx W X1.heap.size 23 #[.int .i64 d1, .int .i64 d2] ∧ Bx W X2.heap.size 32 #[.int .i64 r1, .int .i64 r2, .int .i64 r3]) ∧ RI W (.slice ad o.deps.length cd) o.deps ∧ RR W (.slice ag o.gone.length cg) o.gone from ⟨⟨y1.below h, y2.below h, x3.below h⟩, (hd.below bX).below h, RC.below (RC.below hg bX) h⟩)
  have HTw := hide (fun (W : World) (h : Below X.heap.size X W) => twin_in o ad ag cd cg W ((hd.below bX).below h) (RC.below (RC.below hg bX) h) (by omega) (by omega))
  have Hin := hide hin
  unfold opA at HL ⊢
  clear hlo x1 bX1 x2 bX12 x3 bX23 bX y1 y2 hd hg hi hin
  go_enter Tryz.func3, Tryz.ntmps3
  go_wp2_with fail
  refine (unhide HL _).mono ?_
  rintro r W1 ⟨rfl, hb1⟩
  obtain ⟨⟨a1, -, -⟩, -, -⟩ := unhide HA W1 hb1
  clear p0 p1 p2 p3 p4 p5 p6 p7 p8 p9 p10
  obtain ⟨p0, p1, p2, p3, p4, p5, p6, p7, p8, p9, p10⟩ := cells_op a1
  have HT1 := hide (unhide HTw W1 hb1)
  have Hb1 := hide hb1
  clear hb1 a1 HL HTw
  go_wp2_with fail
  refine (unhide HT1).mono ?_
  rintro r W2 ⟨gd, c1, gg, c2, rfl, htw, hb2⟩
  have hb2' := bnext (unhide Hb1) hb2
  obtain ⟨Y, hY⟩ : ∃ Y, W2.alloc (.cells #[.int .i64 o.ds, .int .i64 o.dq, .slice (some ⟨gd, 0, none⟩) o.deps.length c1, .int .i64 o.kind, .int .i64 o.it, .int .i64 o.is, .int .i64 o.rt, .int .i64 o.rs, .string o.text, .slice (some ⟨gg, 0, none⟩) o.gone.length c2, .int .i64 o.site] 30) = Y := ⟨_, rfl⟩
  have bY : Below W2.heap.size W2 Y := by rw [← hY]; exact ballc (Below.refl _ _) _
  have yt : Bx Y W2.heap.size 30 #[.int .i64 o.ds, .int .i64 o.dq, .slice (some ⟨gd, 0, none⟩) o.deps.length c1, .int .i64 o.kind, .int .i64 o.it, .int .i64 o.is, .int .i64 o.rt, .int .i64 o.rs, .string o.text, .slice (some ⟨gg, 0, none⟩) o.gone.length c2, .int .i64 o.site] := by rw [← hY]; exact Bx.new W2 _ _
  have hbY := bnext hb2' bY
  obtain ⟨⟨a1, a2, a3⟩, a4, a5⟩ := unhide HA Y hbY
  have tY := htw.below bY
  have HC1 := hide (fun (W : World) (h : Below Y.heap.size Y W) => OCheck_in o _ _ W (tY.below h).ri (tY.below h).rr (unhide Hin))
  have HL1 := hide (fun (W : World) (h : Below Y.heap.size Y W) => OLast_in o _ _ W (tY.below h).ri (tY.below h).rr (unhide Hin))
  have HC2 := hide (fun (W : World) (h : Below Y.heap.size Y W) => rCheck_in o ad ag cd cg W (a4.below h) (RC.below a5 h) (unhide Hin) (by omega) (by omega) (by omega))
  have HL2 := hide (fun (W : World) (h : Below Y.heap.size Y W) => rLast_in o ad ag cd cg W (a4.below h) (RC.below a5 h) (unhide Hin) (by omega) (by omega) (by omega))
  have HSt := hide (fun (W : World) (h : Below Y.heap.size Y W) => stands_in o ad ag cd cg _ gd c1 gg c2 W (tY.below h) (a4.below h) (RC.below a5 h) (by omega) (by omega))
  unfold opA at HC1 HL1
  obtain ⟨ck, hck⟩ : ∃ c, chkO o = c := ⟨_, rfl⟩
  obtain ⟨la, hla⟩ : ∃ c, lastO o = c := ⟨_, rfl⟩
  rw [hck] at HC1 HC2
  rw [hla] at HL1 HL2
  obtain ⟨bt, hbt⟩ : ∃ b, W2.heap.size = b := ⟨_, rfl⟩
  have HbY := hide hbY
  have HtY := hide tY
  have hbtl := yt.lt
  have hXb : X.heap.size ≤ W2.heap.size := hb2'.size
  have hgd0 := htw.cells.1
  have hW1b : X.heap.size ≤ W1.heap.size := (unhide Hb1).size
  rw [hbt] at yt hbtl hXb hgd0
  have Hyt := hide yt
  have HBw := hide (bnext (unhide B0) hbY)
  clear p0 p1 p2 p3 p4 p5 p6 p7 p8 p9 p10
  obtain ⟨p0, p1, p2, p3, p4, p5, p6, p7, p8, p9, p10⟩ := cells_op a1
  obtain ⟨q0, q1, q2, q3, q4, q5, q6, q7, q8, q9, q10⟩ := cells_op yt
  have hne := BelowOf.ne Y
  have mixed : Tryz.prog.follows .mixedOrders = true := by kernel_rfl
  have P0 : ∀ p : BelowOf Y, p.w.cell? ⟨w.heap.size, 0, none⟩ = some (.int .i64 o.ds) := fun p => cell_below p0 p.h
  have P1 : ∀ p : BelowOf Y, p.w.cell? ⟨w.heap.size, 1, none⟩ = some (.int .i64 o.dq) := fun p => cell_below p1 p.h
  have P2 : ∀ p : BelowOf Y, p.w.cell? ⟨w.heap.size, 2, none⟩ = some (.slice ad o.deps.length cd) := fun p => cell_below p2 p.h
  have P3 : ∀ p : BelowOf Y, p.w.cell? ⟨w.heap.size, 3, none⟩ = some (.int .i64 o.kind) := fun p => cell_below p3 p.h
  have P4 : ∀ p : BelowOf Y, p.w.cell? ⟨w.heap.size, 4, none⟩ = some (.int .i64 o.it) := fun p => cell_below p4 p.h
  have P5 : ∀ p : BelowOf Y, p.w.cell? ⟨w.heap.size, 5, none⟩ = some (.int .i64 o.is) := fun p => cell_below p5 p.h
  have P6 : ∀ p : BelowOf Y, p.w.cell? ⟨w.heap.size, 6, none⟩ = some (.int .i64 o.rt) := fun p => cell_below p6 p.h
  have P7 : ∀ p : BelowOf Y, p.w.cell? ⟨w.heap.size, 7, none⟩ = some (.int .i64 o.rs) := fun p => cell_below p7 p.h
  have P8 : ∀ p : BelowOf Y, p.w.cell? ⟨w.heap.size, 8, none⟩ = some (.string o.text) := fun p => cell_below p8 p.h
  have P9 : ∀ p : BelowOf Y, p.w.cell? ⟨w.heap.size, 9, none⟩ = some (.slice ag o.gone.length cg) := fun p => cell_below p9 p.h
  have P10 : ∀ p : BelowOf Y, p.w.cell? ⟨w.heap.size, 10, none⟩ = some (.int .i64 o.site) := fun p => cell_below p10 p.h
  have Q0 : ∀ p : BelowOf Y, p.w.cell? ⟨bt, 0, none⟩ = some (.int .i64 o.ds) := fun p => cell_below q0 p.h
  have Q1 : ∀ p : BelowOf Y, p.w.cell? ⟨bt, 1, none⟩ = some (.int .i64 o.dq) := fun p => cell_below q1 p.h
  have Q2 : ∀ p : BelowOf Y, p.w.cell? ⟨bt, 2, none⟩ = some (.slice (some ⟨gd, 0, none⟩) o.deps.length c1) := fun p => cell_below q2 p.h
  have Q3 : ∀ p : BelowOf Y, p.w.cell? ⟨bt, 3, none⟩ = some (.int .i64 o.kind) := fun p => cell_below q3 p.h
  have Q4 : ∀ p : BelowOf Y, p.w.cell? ⟨bt, 4, none⟩ = some (.int .i64 o.it) := fun p => cell_below q4 p.h
  have Q5 : ∀ p : BelowOf Y, p.w.cell? ⟨bt, 5, none⟩ = some (.int .i64 o.is) := fun p => cell_below q5 p.h
  have Q6 : ∀ p : BelowOf Y, p.w.cell? ⟨bt, 6, none⟩ = some (.int .i64 o.rt) := fun p => cell_below q6 p.h
  have Q7 : ∀ p : BelowOf Y, p.w.cell? ⟨bt, 7, none⟩ = some (.int .i64 o.rs) := fun p => cell_below q7 p.h
  have Q8 : ∀ p : BelowOf Y, p.w.cell? ⟨bt, 8, none⟩ = some (.string o.text) := fun p => cell_below q8 p.h
  have Q9 : ∀ p : BelowOf Y, p.w.cell? ⟨bt, 9, none⟩ = some (.slice (some ⟨gg, 0, none⟩) o.gone.length c2) := fun p => cell_below q9 p.h
  have Q10 : ∀ p : BelowOf Y, p.w.cell? ⟨bt, 10, none⟩ = some (.int .i64 o.site) := fun p => cell_below q10 p.h
  clear p0 p1 p2 p3 p4 p5 p6 p7 p8 p9 p10 q0 q1 q2 q3 q4 q5 q6 q7 q8 q9 q10 a1 a2 a3 a4 a5 yt tY htw hb2 hb2' bY hbY HT1 Hb1 hck hla B0
  go_wp2_with fail
  refine wp_region_quiet_below mixed (by kernel_rfl) ?_
  repeat (any_goals (first | go_big_quiet_step ((first | (go_at_call 9; exact below_of (unhide HC1 _ (BelowOf.h _))) | (go_at_call 10; exact below_of (unhide HC2 _ (BelowOf.h _))) | (go_at_call 11; exact below_of (unhide HL1 _ (BelowOf.h _))) | (go_at_call 12; exact below_of (unhide HL2 _ (BelowOf.h _))) | (go_at_call 13; exact below_of (unhide HSt _ (BelowOf.h _))))) | quiet_step ((first | (go_at_call 9; exact below_of (unhide HC1 _ (BelowOf.h _))) | (go_at_call 10; exact below_of (unhide HC2 _ (BelowOf.h _))) | (go_at_call 11; exact below_of (unhide HL1 _ (BelowOf.h _))) | (go_at_call 12; exact below_of (unhide HL2 _ (BelowOf.h _))) | (go_at_call 13; exact below_of (unhide HSt _ (BelowOf.h _)))))))
  all_goals (refine wpQuiet_nil ?_; intro _ hw'; obtain ⟨p, hw''⟩ := hw'; subst hw'')
  obtain ⟨W3, hW3⟩ : ∃ W, W = p.w := ⟨_, rfl⟩
  have HB3 := hide (show Below Y.heap.size Y W3 by rw [hW3]; exact p.h)
  have htw3 := (unhide HtY).below (unhide HB3)
  obtain ⟨⟨b1, b2, b3⟩, -, -⟩ := unhide HA W3 (bnext (unhide HbY) (unhide HB3))
  have bt3 := (unhide Hyt).below (unhide HB3)
  have HBw3 := hide (bnext (unhide HBw) (unhide HB3))
  rw [← hW3]
  clear hW3 HC1 HC2 HL1 HL2 HSt HA HtY Hyt HBw HbY P0 P1 P2 P3 P4 P5 P6 P7 P8 P9 P10 Q0 Q1 Q2 Q3 Q4 Q5 Q6 Q7 Q8 Q9 Q10 hne p
  have hTw := hide htw3
  have hBt := hide bt3
  have hBd := hide b2
  have hBr := hide b3
  clear htw3 bt3 b1 b2 b3
  by_cases hneg : iv < 0
  · obtain ⟨j, hj⟩ : ∃ j : Nat, -(iv + 1) = (j : Int) := ⟨(-(iv + 1)).toNat, by omega⟩
    by_cases hdl : 0 < o.deps.length
    · have hn0 : (0 : Int) < (o.deps.length : Int) := by omega
      obtain ⟨k, hk, hkn⟩ : ∃ k : Nat, (j : Int) % (o.deps.length : Int) = (k : Int) ∧ k < o.deps.length := ⟨j % o.deps.length, (Int.natCast_emod _ _).symm, Nat.mod_lt _ hdl⟩
      have hkn' : (k : Int) < (o.deps.length : Int) := by omega
      obtain ⟨-, hex, hfr, -, -⟩ := (unhide hTw).cells
      obtain ⟨z0, s0⟩ := hex (k * 2) (by omega)
      obtain ⟨z1, s1⟩ := hex (k * 2 + 1) (by omega)
      have t0 := hfr (k * 2)
      have t1 := hfr (k * 2 + 1)
      obtain ⟨q0, q1, q2, q3, q4, q5, q6, q7, q8, q9, q10⟩ := cells_op (unhide hBt)
      have e0 := (unhide hBd).cell 0 _ rfl
      have e1 := (unhide hBd).cell 1 _ rfl
      have kpd : Kp (fun j => j = gd) W3 (((W3.setCell ⟨gd, k * 2, none⟩ (.int .i64 d1)).setCell ⟨gd, k * 2 + 1, none⟩ (.int .i64 d2)).drew) := by
        have h := ((Kp.set (N := fun j => j = gd) W3 ⟨gd, k * 2, none⟩ (.int .i64 d1) rfl).trans (Kp.set (N := fun j => j = gd) _ ⟨gd, k * 2 + 1, none⟩ (.int .i64 d2) rfl) (fun j e => .inl e))
        exact ⟨h.os, h.tape, h.output, h.size, h.block⟩
      have hTw2 : Hid (Tw (((W3.setCell ⟨gd, k * 2, none⟩ (.int .i64 d1)).setCell ⟨gd, k * 2 + 1, none⟩ (.int .i64 d2)).drew) W1.heap.size (o.deps.set k (d1, d2)) o.gone gd c1 gg c2) := hide (by
        have h := (unhide hTw).setd hkn d1 d2
        exact ⟨h.d, h.g⟩)
      have hBt2 := hide ((unhide hBt).kp kpd (by omega))
      have hBr2 := hide ((unhide hBr).kp kpd (by omega))
      have HBw4 := hide (kpd.below (unhide HBw3) (fun i e => by omega))
      clear hex hfr kpd
      go_upto_region 9 with fail
      go_region
      obtain ⟨Zd, hZd⟩ : ∃ Z, ((W3.setCell ⟨gd, k * 2, none⟩ (.int .i64 d1)).setCell ⟨gd, k * 2 + 1, none⟩ (.int .i64 d2)).drew = Z := ⟨_, rfl⟩
      rw [hZd] at hTw2 hBt2 hBr2 HBw4 ⊢
      clear hTw hBt hBr hBd HBw3 hk hkn hkn' s0 s1 t0 t1 e0 e1 hZd q0 q1 q2 q3 q4 q5 q6 q7 q8 q9 q10
      have hTw := hTw2
      have hBt := hBt2
      have hBr := hBr2
      have HBw3 := HBw4
      clear hTw2 hBt2 hBr2 HBw4
      by_cases hgl : 0 < o.gone.length
      · have hg0 : (0 : Int) < (o.gone.length : Int) := by omega
        obtain ⟨k2, hk2, hkn2⟩ : ∃ k : Nat, (j : Int) % (o.gone.length : Int) = (k : Int) ∧ k < o.gone.length := ⟨j % o.gone.length, (Int.natCast_emod _ _).symm, Nat.mod_lt _ hgl⟩
        have hkn2' : (k2 : Int) < (o.gone.length : Int) := by omega
        obtain ⟨-, -, -, hex, hfr⟩ := (unhide hTw).cells
        obtain ⟨z0, s0⟩ := hex (k2 * 3) (by omega)
        obtain ⟨z1, s1⟩ := hex (k2 * 3 + 1) (by omega)
        obtain ⟨z2, s2⟩ := hex (k2 * 3 + 2) (by omega)
        have t0 := hfr (k2 * 3)
        have t1 := hfr (k2 * 3 + 1)
        have t2 := hfr (k2 * 3 + 2)
        obtain ⟨q0, q1, q2, q3, q4, q5, q6, q7, q8, q9, q10⟩ := cells_op (unhide hBt)
        have e0 := (unhide hBr).cell 0 _ rfl
        have e1 := (unhide hBr).cell 1 _ rfl
        have e2 := (unhide hBr).cell 2 _ rfl
        have kpd : Kp (fun j => j = gg) Zd ((((Zd.setCell ⟨gg, k2 * 3, none⟩ (.int .i64 r1)).setCell ⟨gg, k2 * 3 + 1, none⟩ (.int .i64 r2)).setCell ⟨gg, k2 * 3 + 2, none⟩ (.int .i64 r3)).drew) := by
          have h := (((Kp.set (N := fun j => j = gg) Zd ⟨gg, k2 * 3, none⟩ (.int .i64 r1) rfl).trans (Kp.set (N := fun j => j = gg) _ ⟨gg, k2 * 3 + 1, none⟩ (.int .i64 r2) rfl) (fun j e => .inl e)).trans (Kp.set (N := fun j => j = gg) _ ⟨gg, k2 * 3 + 2, none⟩ (.int .i64 r3) rfl) (fun j e => .inl e))
          exact ⟨h.os, h.tape, h.output, h.size, h.block⟩
        have hTw2 : Hid (Tw ((((Zd.setCell ⟨gg, k2 * 3, none⟩ (.int .i64 r1)).setCell ⟨gg, k2 * 3 + 1, none⟩ (.int .i64 r2)).setCell ⟨gg, k2 * 3 + 2, none⟩ (.int .i64 r3)).drew) W1.heap.size (o.deps.set k (d1, d2)) (o.gone.set k2 ((r1, r2), r3)) gd c1 gg c2) := hide (by
          have h := (unhide hTw).setg hkn2 r1 r2 r3
          exact ⟨h.d, h.g⟩)
        have hBt2 := hide ((unhide hBt).kp kpd (by omega))
        have HBw4 := hide (kpd.below (unhide HBw3) (fun i e => by omega))
        clear hex hfr kpd
        go_upto_region 11 with fail
        go_region
        obtain ⟨Zg, hZg⟩ : ∃ Z, (((Zd.setCell ⟨gg, k2 * 3, none⟩ (.int .i64 r1)).setCell ⟨gg, k2 * 3 + 1, none⟩ (.int .i64 r2)).setCell ⟨gg, k2 * 3 + 2, none⟩ (.int .i64 r3)).drew = Z := ⟨_, rfl⟩
        rw [hZg] at hTw2 hBt2 HBw4 ⊢
        clear hTw hBt hBr HBw3 hk2 hkn2 hkn2' s0 s1 s2 t0 t1 t2 e0 e1 e2 hZg q0 q1 q2 q3 q4 q5 q6 q7 q8 q9 q10
        have hTw := hTw2
        have hBt := hBt2
        have HBw3 := HBw4
        clear hTw2 hBt2 HBw4
        obtain ⟨o2, ho2⟩ : ∃ o2 : Opn, o2 = { o with deps := o.deps.set k (d1, d2), gone := o.gone.set k2 ((r1, r2), r3) } := ⟨_, rfl⟩
        have Hin2 : InO o2 := by rw [ho2]; exact ((unhide Hin).setd k (d1, d2)).setg k2 w2
        have hl1 : o2.deps.length = o.deps.length := by rw [ho2]; exact List.length_set
        have hl2 : o2.gone.length = o.gone.length := by rw [ho2]; exact List.length_set
        have HZt : Tw Zg W1.heap.size o2.deps o2.gone gd c1 gg c2 := by rw [ho2]; exact unhide hTw
        have f0 : o2.ds = o.ds := by rw [ho2]
        have f1 : o2.dq = o.dq := by rw [ho2]
        have f3 : o2.kind = o.kind := by rw [ho2]
        have f4 : o2.it = o.it := by rw [ho2]
        have f5 : o2.is = o.is := by rw [ho2]
        have f6 : o2.rt = o.rt := by rw [ho2]
        have f7 : o2.rs = o.rs := by rw [ho2]
        have f8 : o2.text = o.text := by rw [ho2]
        have f10 : o2.site = o.site := by rw [ho2]
        have HC1 := hide (fun (W : World) (h : Below Zg.heap.size Zg W) => OCheck_in o2 _ _ W (HZt.below h).ri (HZt.below h).rr Hin2)
        have HL1 := hide (fun (W : World) (h : Below Zg.heap.size Zg W) => OLast_in o2 _ _ W (HZt.below h).ri (HZt.below h).rr Hin2)
        have HC2 := hide (fun (W : World) (h : Below Zg.heap.size Zg W) => rCheck_in o2 _ _ _ _ W (HZt.below h).ri (HZt.below h).rr Hin2 (by omega) (by omega) (by rw [f8]; omega))
        have HL2 := hide (fun (W : World) (h : Below Zg.heap.size Zg W) => rLast_in o2 _ _ _ _ W (HZt.below h).ri (HZt.below h).rr Hin2 (by omega) (by omega) (by rw [f8]; omega))
        unfold opA at HC1 HL1
        obtain ⟨ck2, hck⟩ : ∃ c, chkO o2 = c := ⟨_, rfl⟩
        obtain ⟨la2, hla⟩ : ∃ c, lastO o2 = c := ⟨_, rfl⟩
        simp only [hck, f0, f1, f3, f4, f5, f6, f7, f8, f10, hl1, hl2] at HC1 HC2
        simp only [hla, f0, f1, f3, f4, f5, f6, f7, f8, f10, hl1, hl2] at HL1 HL2
        obtain ⟨q0, q1, q2, q3, q4, q5, q6, q7, q8, q9, q10⟩ := cells_op (unhide hBt)
        have hne := BelowOf.ne Zg
        have Q0 : ∀ p : BelowOf Zg, p.w.cell? ⟨bt, 0, none⟩ = some (.int .i64 o.ds) := fun p => cell_below q0 p.h
        have Q1 : ∀ p : BelowOf Zg, p.w.cell? ⟨bt, 1, none⟩ = some (.int .i64 o.dq) := fun p => cell_below q1 p.h
        have Q2 : ∀ p : BelowOf Zg, p.w.cell? ⟨bt, 2, none⟩ = some (.slice (some ⟨gd, 0, none⟩) o.deps.length c1) := fun p => cell_below q2 p.h
        have Q3 : ∀ p : BelowOf Zg, p.w.cell? ⟨bt, 3, none⟩ = some (.int .i64 o.kind) := fun p => cell_below q3 p.h
        have Q4 : ∀ p : BelowOf Zg, p.w.cell? ⟨bt, 4, none⟩ = some (.int .i64 o.it) := fun p => cell_below q4 p.h
        have Q5 : ∀ p : BelowOf Zg, p.w.cell? ⟨bt, 5, none⟩ = some (.int .i64 o.is) := fun p => cell_below q5 p.h
        have Q6 : ∀ p : BelowOf Zg, p.w.cell? ⟨bt, 6, none⟩ = some (.int .i64 o.rt) := fun p => cell_below q6 p.h
        have Q7 : ∀ p : BelowOf Zg, p.w.cell? ⟨bt, 7, none⟩ = some (.int .i64 o.rs) := fun p => cell_below q7 p.h
        have Q8 : ∀ p : BelowOf Zg, p.w.cell? ⟨bt, 8, none⟩ = some (.string o.text) := fun p => cell_below q8 p.h
        have Q9 : ∀ p : BelowOf Zg, p.w.cell? ⟨bt, 9, none⟩ = some (.slice (some ⟨gg, 0, none⟩) o.gone.length c2) := fun p => cell_below q9 p.h
        have Q10 : ∀ p : BelowOf Zg, p.w.cell? ⟨bt, 10, none⟩ = some (.int .i64 o.site) := fun p => cell_below q10 p.h
        clear ho2 Hin2 hl1 hl2 HZt f0 f1 f3 f4 f5 f6 f7 f8 f10 hck hla q0 q1 q2 q3 q4 q5 q6 q7 q8 q9 q10 hBt hTw
        go_wp2_with fail
        refine wp_region_quiet_below mixed (by kernel_rfl) ?_
        repeat (any_goals (first | go_big_quiet_step ((first | (go_at_call 9; exact below_of (unhide HC1 _ (BelowOf.h _))) | (go_at_call 10; exact below_of (unhide HC2 _ (BelowOf.h _))) | (go_at_call 11; exact below_of (unhide HL1 _ (BelowOf.h _))) | (go_at_call 12; exact below_of (unhide HL2 _ (BelowOf.h _))) | (go_at_call 7; exact below_of (unhide HK _)))) | quiet_step ((first | (go_at_call 9; exact below_of (unhide HC1 _ (BelowOf.h _))) | (go_at_call 10; exact below_of (unhide HC2 _ (BelowOf.h _))) | (go_at_call 11; exact below_of (unhide HL1 _ (BelowOf.h _))) | (go_at_call 12; exact below_of (unhide HL2 _ (BelowOf.h _))) | (go_at_call 7; exact below_of (unhide HK _))))))
        all_goals (refine wpQuiet_nil ?_; intro _ hw'; obtain ⟨pp, hw''⟩ := hw'; subst hw'')
        have HE := hide (bnext (unhide HBw3) pp.h)
        go_wp2
        go_ret
        exact ⟨rfl, unhide HE⟩
      · have hg0 : ¬ (0 : Int) < (o.gone.length : Int) := by omega
        obtain ⟨q0, q1, q2, q3, q4, q5, q6, q7, q8, q9, q10⟩ := cells_op (unhide hBt)
        go_upto_region 12 with fail
        clear q0 q1 q2 q3 q4 q5 q6 q7 q8 q9 q10
        obtain ⟨o2, ho2⟩ : ∃ o2 : Opn, o2 = { o with deps := o.deps.set k (d1, d2) } := ⟨_, rfl⟩
        have Hin2 : InO o2 := by rw [ho2]; exact (unhide Hin).setd k (d1, d2)
        have hl1 : o2.deps.length = o.deps.length := by rw [ho2]; exact List.length_set
        have hl2 : o2.gone.length = o.gone.length := by rw [ho2]
        have HZt : Tw Zd W1.heap.size o2.deps o2.gone gd c1 gg c2 := by rw [ho2]; exact unhide hTw
        have f0 : o2.ds = o.ds := by rw [ho2]
        have f1 : o2.dq = o.dq := by rw [ho2]
        have f3 : o2.kind = o.kind := by rw [ho2]
        have f4 : o2.it = o.it := by rw [ho2]
        have f5 : o2.is = o.is := by rw [ho2]
        have f6 : o2.rt = o.rt := by rw [ho2]
        have f7 : o2.rs = o.rs := by rw [ho2]
        have f8 : o2.text = o.text := by rw [ho2]
        have f10 : o2.site = o.site := by rw [ho2]
        have HC1 := hide (fun (W : World) (h : Below Zd.heap.size Zd W) => OCheck_in o2 _ _ W (HZt.below h).ri (HZt.below h).rr Hin2)
        have HL1 := hide (fun (W : World) (h : Below Zd.heap.size Zd W) => OLast_in o2 _ _ W (HZt.below h).ri (HZt.below h).rr Hin2)
        have HC2 := hide (fun (W : World) (h : Below Zd.heap.size Zd W) => rCheck_in o2 _ _ _ _ W (HZt.below h).ri (HZt.below h).rr Hin2 (by omega) (by omega) (by rw [f8]; omega))
        have HL2 := hide (fun (W : World) (h : Below Zd.heap.size Zd W) => rLast_in o2 _ _ _ _ W (HZt.below h).ri (HZt.below h).rr Hin2 (by omega) (by omega) (by rw [f8]; omega))
        unfold opA at HC1 HL1
        obtain ⟨ck2, hck⟩ : ∃ c, chkO o2 = c := ⟨_, rfl⟩
        obtain ⟨la2, hla⟩ : ∃ c, lastO o2 = c := ⟨_, rfl⟩
        simp only [hck, f0, f1, f3, f4, f5, f6, f7, f8, f10, hl1, hl2] at HC1 HC2
        simp only [hla, f0, f1, f3, f4, f5, f6, f7, f8, f10, hl1, hl2] at HL1 HL2
        obtain ⟨q0, q1, q2, q3, q4, q5, q6, q7, q8, q9, q10⟩ := cells_op (unhide hBt)
        have hne := BelowOf.ne Zd
        have Q0 : ∀ p : BelowOf Zd, p.w.cell? ⟨bt, 0, none⟩ = some (.int .i64 o.ds) := fun p => cell_below q0 p.h
        have Q1 : ∀ p : BelowOf Zd, p.w.cell? ⟨bt, 1, none⟩ = some (.int .i64 o.dq) := fun p => cell_below q1 p.h
        have Q2 : ∀ p : BelowOf Zd, p.w.cell? ⟨bt, 2, none⟩ = some (.slice (some ⟨gd, 0, none⟩) o.deps.length c1) := fun p => cell_below q2 p.h
        have Q3 : ∀ p : BelowOf Zd, p.w.cell? ⟨bt, 3, none⟩ = some (.int .i64 o.kind) := fun p => cell_below q3 p.h
        have Q4 : ∀ p : BelowOf Zd, p.w.cell? ⟨bt, 4, none⟩ = some (.int .i64 o.it) := fun p => cell_below q4 p.h
        have Q5 : ∀ p : BelowOf Zd, p.w.cell? ⟨bt, 5, none⟩ = some (.int .i64 o.is) := fun p => cell_below q5 p.h
        have Q6 : ∀ p : BelowOf Zd, p.w.cell? ⟨bt, 6, none⟩ = some (.int .i64 o.rt) := fun p => cell_below q6 p.h
        have Q7 : ∀ p : BelowOf Zd, p.w.cell? ⟨bt, 7, none⟩ = some (.int .i64 o.rs) := fun p => cell_below q7 p.h
        have Q8 : ∀ p : BelowOf Zd, p.w.cell? ⟨bt, 8, none⟩ = some (.string o.text) := fun p => cell_below q8 p.h
        have Q9 : ∀ p : BelowOf Zd, p.w.cell? ⟨bt, 9, none⟩ = some (.slice (some ⟨gg, 0, none⟩) o.gone.length c2) := fun p => cell_below q9 p.h
        have Q10 : ∀ p : BelowOf Zd, p.w.cell? ⟨bt, 10, none⟩ = some (.int .i64 o.site) := fun p => cell_below q10 p.h
        clear ho2 Hin2 hl1 hl2 HZt f0 f1 f3 f4 f5 f6 f7 f8 f10 hck hla q0 q1 q2 q3 q4 q5 q6 q7 q8 q9 q10 hBt hTw
        go_wp2_with fail
        refine wp_region_quiet_below mixed (by kernel_rfl) ?_
        repeat (any_goals (first | go_big_quiet_step ((first | (go_at_call 9; exact below_of (unhide HC1 _ (BelowOf.h _))) | (go_at_call 10; exact below_of (unhide HC2 _ (BelowOf.h _))) | (go_at_call 11; exact below_of (unhide HL1 _ (BelowOf.h _))) | (go_at_call 12; exact below_of (unhide HL2 _ (BelowOf.h _))) | (go_at_call 7; exact below_of (unhide HK _)))) | quiet_step ((first | (go_at_call 9; exact below_of (unhide HC1 _ (BelowOf.h _))) | (go_at_call 10; exact below_of (unhide HC2 _ (BelowOf.h _))) | (go_at_call 11; exact below_of (unhide HL1 _ (BelowOf.h _))) | (go_at_call 12; exact below_of (unhide HL2 _ (BelowOf.h _))) | (go_at_call 7; exact below_of (unhide HK _))))))
        all_goals (refine wpQuiet_nil ?_; intro _ hw'; obtain ⟨pp, hw''⟩ := hw'; subst hw'')
        have HE := hide (bnext (unhide HBw3) pp.h)
        go_wp2
        go_ret
        exact ⟨rfl, unhide HE⟩
    · have hn0 : ¬ (0 : Int) < (o.deps.length : Int) := by omega
      by_cases hgl : 0 < o.gone.length
      · have hg0 : (0 : Int) < (o.gone.length : Int) := by omega
        obtain ⟨k2, hk2, hkn2⟩ : ∃ k : Nat, (j : Int) % (o.gone.length : Int) = (k : Int) ∧ k < o.gone.length := ⟨j % o.gone.length, (Int.natCast_emod _ _).symm, Nat.mod_lt _ hgl⟩
        have hkn2' : (k2 : Int) < (o.gone.length : Int) := by omega
        obtain ⟨-, -, -, hex, hfr⟩ := (unhide hTw).cells
        obtain ⟨z0, s0⟩ := hex (k2 * 3) (by omega)
        obtain ⟨z1, s1⟩ := hex (k2 * 3 + 1) (by omega)
        obtain ⟨z2, s2⟩ := hex (k2 * 3 + 2) (by omega)
        have t0 := hfr (k2 * 3)
        have t1 := hfr (k2 * 3 + 1)
        have t2 := hfr (k2 * 3 + 2)
        obtain ⟨q0, q1, q2, q3, q4, q5, q6, q7, q8, q9, q10⟩ := cells_op (unhide hBt)
        have e0 := (unhide hBr).cell 0 _ rfl
        have e1 := (unhide hBr).cell 1 _ rfl
        have e2 := (unhide hBr).cell 2 _ rfl
        have kpd : Kp (fun j => j = gg) W3 ((((W3.setCell ⟨gg, k2 * 3, none⟩ (.int .i64 r1)).setCell ⟨gg, k2 * 3 + 1, none⟩ (.int .i64 r2)).setCell ⟨gg, k2 * 3 + 2, none⟩ (.int .i64 r3)).drew) := by
          have h := (((Kp.set (N := fun j => j = gg) W3 ⟨gg, k2 * 3, none⟩ (.int .i64 r1) rfl).trans (Kp.set (N := fun j => j = gg) _ ⟨gg, k2 * 3 + 1, none⟩ (.int .i64 r2) rfl) (fun j e => .inl e)).trans (Kp.set (N := fun j => j = gg) _ ⟨gg, k2 * 3 + 2, none⟩ (.int .i64 r3) rfl) (fun j e => .inl e))
          exact ⟨h.os, h.tape, h.output, h.size, h.block⟩
        have hTw2 : Hid (Tw ((((W3.setCell ⟨gg, k2 * 3, none⟩ (.int .i64 r1)).setCell ⟨gg, k2 * 3 + 1, none⟩ (.int .i64 r2)).setCell ⟨gg, k2 * 3 + 2, none⟩ (.int .i64 r3)).drew) W1.heap.size o.deps (o.gone.set k2 ((r1, r2), r3)) gd c1 gg c2) := hide (by
          have h := (unhide hTw).setg hkn2 r1 r2 r3
          exact ⟨h.d, h.g⟩)
        have hBt2 := hide ((unhide hBt).kp kpd (by omega))
        have HBw4 := hide (kpd.below (unhide HBw3) (fun i e => by omega))
        clear hex hfr kpd
        go_upto_region 11 with fail
        go_region
        obtain ⟨Zg, hZg⟩ : ∃ Z, (((W3.setCell ⟨gg, k2 * 3, none⟩ (.int .i64 r1)).setCell ⟨gg, k2 * 3 + 1, none⟩ (.int .i64 r2)).setCell ⟨gg, k2 * 3 + 2, none⟩ (.int .i64 r3)).drew = Z := ⟨_, rfl⟩
        rw [hZg] at hTw2 hBt2 HBw4 ⊢
        clear hTw hBt hBr HBw3 hk2 hkn2 hkn2' s0 s1 s2 t0 t1 t2 e0 e1 e2 hZg q0 q1 q2 q3 q4 q5 q6 q7 q8 q9 q10
        have hTw := hTw2
        have hBt := hBt2
        have HBw3 := HBw4
        clear hTw2 hBt2 HBw4
        obtain ⟨o2, ho2⟩ : ∃ o2 : Opn, o2 = { o with gone := o.gone.set k2 ((r1, r2), r3) } := ⟨_, rfl⟩
        have Hin2 : InO o2 := by rw [ho2]; exact (unhide Hin).setg k2 w2
        have hl1 : o2.deps.length = o.deps.length := by rw [ho2]
        have hl2 : o2.gone.length = o.gone.length := by rw [ho2]; exact List.length_set
        have HZt : Tw Zg W1.heap.size o2.deps o2.gone gd c1 gg c2 := by rw [ho2]; exact unhide hTw
        have f0 : o2.ds = o.ds := by rw [ho2]
        have f1 : o2.dq = o.dq := by rw [ho2]
        have f3 : o2.kind = o.kind := by rw [ho2]
        have f4 : o2.it = o.it := by rw [ho2]
        have f5 : o2.is = o.is := by rw [ho2]
        have f6 : o2.rt = o.rt := by rw [ho2]
        have f7 : o2.rs = o.rs := by rw [ho2]
        have f8 : o2.text = o.text := by rw [ho2]
        have f10 : o2.site = o.site := by rw [ho2]
        have HC1 := hide (fun (W : World) (h : Below Zg.heap.size Zg W) => OCheck_in o2 _ _ W (HZt.below h).ri (HZt.below h).rr Hin2)
        have HL1 := hide (fun (W : World) (h : Below Zg.heap.size Zg W) => OLast_in o2 _ _ W (HZt.below h).ri (HZt.below h).rr Hin2)
        have HC2 := hide (fun (W : World) (h : Below Zg.heap.size Zg W) => rCheck_in o2 _ _ _ _ W (HZt.below h).ri (HZt.below h).rr Hin2 (by omega) (by omega) (by rw [f8]; omega))
        have HL2 := hide (fun (W : World) (h : Below Zg.heap.size Zg W) => rLast_in o2 _ _ _ _ W (HZt.below h).ri (HZt.below h).rr Hin2 (by omega) (by omega) (by rw [f8]; omega))
        unfold opA at HC1 HL1
        obtain ⟨ck2, hck⟩ : ∃ c, chkO o2 = c := ⟨_, rfl⟩
        obtain ⟨la2, hla⟩ : ∃ c, lastO o2 = c := ⟨_, rfl⟩
        simp only [hck, f0, f1, f3, f4, f5, f6, f7, f8, f10, hl1, hl2] at HC1 HC2
        simp only [hla, f0, f1, f3, f4, f5, f6, f7, f8, f10, hl1, hl2] at HL1 HL2
        obtain ⟨q0, q1, q2, q3, q4, q5, q6, q7, q8, q9, q10⟩ := cells_op (unhide hBt)
        have hne := BelowOf.ne Zg
        have Q0 : ∀ p : BelowOf Zg, p.w.cell? ⟨bt, 0, none⟩ = some (.int .i64 o.ds) := fun p => cell_below q0 p.h
        have Q1 : ∀ p : BelowOf Zg, p.w.cell? ⟨bt, 1, none⟩ = some (.int .i64 o.dq) := fun p => cell_below q1 p.h
        have Q2 : ∀ p : BelowOf Zg, p.w.cell? ⟨bt, 2, none⟩ = some (.slice (some ⟨gd, 0, none⟩) o.deps.length c1) := fun p => cell_below q2 p.h
        have Q3 : ∀ p : BelowOf Zg, p.w.cell? ⟨bt, 3, none⟩ = some (.int .i64 o.kind) := fun p => cell_below q3 p.h
        have Q4 : ∀ p : BelowOf Zg, p.w.cell? ⟨bt, 4, none⟩ = some (.int .i64 o.it) := fun p => cell_below q4 p.h
        have Q5 : ∀ p : BelowOf Zg, p.w.cell? ⟨bt, 5, none⟩ = some (.int .i64 o.is) := fun p => cell_below q5 p.h
        have Q6 : ∀ p : BelowOf Zg, p.w.cell? ⟨bt, 6, none⟩ = some (.int .i64 o.rt) := fun p => cell_below q6 p.h
        have Q7 : ∀ p : BelowOf Zg, p.w.cell? ⟨bt, 7, none⟩ = some (.int .i64 o.rs) := fun p => cell_below q7 p.h
        have Q8 : ∀ p : BelowOf Zg, p.w.cell? ⟨bt, 8, none⟩ = some (.string o.text) := fun p => cell_below q8 p.h
        have Q9 : ∀ p : BelowOf Zg, p.w.cell? ⟨bt, 9, none⟩ = some (.slice (some ⟨gg, 0, none⟩) o.gone.length c2) := fun p => cell_below q9 p.h
        have Q10 : ∀ p : BelowOf Zg, p.w.cell? ⟨bt, 10, none⟩ = some (.int .i64 o.site) := fun p => cell_below q10 p.h
        clear ho2 Hin2 hl1 hl2 HZt f0 f1 f3 f4 f5 f6 f7 f8 f10 hck hla q0 q1 q2 q3 q4 q5 q6 q7 q8 q9 q10 hBt hTw
        go_wp2_with fail
        refine wp_region_quiet_below mixed (by kernel_rfl) ?_
        repeat (any_goals (first | go_big_quiet_step ((first | (go_at_call 9; exact below_of (unhide HC1 _ (BelowOf.h _))) | (go_at_call 10; exact below_of (unhide HC2 _ (BelowOf.h _))) | (go_at_call 11; exact below_of (unhide HL1 _ (BelowOf.h _))) | (go_at_call 12; exact below_of (unhide HL2 _ (BelowOf.h _))) | (go_at_call 7; exact below_of (unhide HK _)))) | quiet_step ((first | (go_at_call 9; exact below_of (unhide HC1 _ (BelowOf.h _))) | (go_at_call 10; exact below_of (unhide HC2 _ (BelowOf.h _))) | (go_at_call 11; exact below_of (unhide HL1 _ (BelowOf.h _))) | (go_at_call 12; exact below_of (unhide HL2 _ (BelowOf.h _))) | (go_at_call 7; exact below_of (unhide HK _))))))
        all_goals (refine wpQuiet_nil ?_; intro _ hw'; obtain ⟨pp, hw''⟩ := hw'; subst hw'')
        have HE := hide (bnext (unhide HBw3) pp.h)
        go_wp2
        go_ret
        exact ⟨rfl, unhide HE⟩
      · have hg0 : ¬ (0 : Int) < (o.gone.length : Int) := by omega
        obtain ⟨q0, q1, q2, q3, q4, q5, q6, q7, q8, q9, q10⟩ := cells_op (unhide hBt)
        go_upto_region 12 with fail
        clear q0 q1 q2 q3 q4 q5 q6 q7 q8 q9 q10
        obtain ⟨o2, ho2⟩ : ∃ o2 : Opn, o2 = o := ⟨_, rfl⟩
        have Hin2 : InO o2 := by rw [ho2]; exact unhide Hin
        have hl1 : o2.deps.length = o.deps.length := by rw [ho2]
        have hl2 : o2.gone.length = o.gone.length := by rw [ho2]
        have HZt : Tw W3 W1.heap.size o2.deps o2.gone gd c1 gg c2 := by rw [ho2]; exact unhide hTw
        have f0 : o2.ds = o.ds := by rw [ho2]
        have f1 : o2.dq = o.dq := by rw [ho2]
        have f3 : o2.kind = o.kind := by rw [ho2]
        have f4 : o2.it = o.it := by rw [ho2]
        have f5 : o2.is = o.is := by rw [ho2]
        have f6 : o2.rt = o.rt := by rw [ho2]
        have f7 : o2.rs = o.rs := by rw [ho2]
        have f8 : o2.text = o.text := by rw [ho2]
        have f10 : o2.site = o.site := by rw [ho2]
        have HC1 := hide (fun (W : World) (h : Below W3.heap.size W3 W) => OCheck_in o2 _ _ W (HZt.below h).ri (HZt.below h).rr Hin2)
        have HL1 := hide (fun (W : World) (h : Below W3.heap.size W3 W) => OLast_in o2 _ _ W (HZt.below h).ri (HZt.below h).rr Hin2)
        have HC2 := hide (fun (W : World) (h : Below W3.heap.size W3 W) => rCheck_in o2 _ _ _ _ W (HZt.below h).ri (HZt.below h).rr Hin2 (by omega) (by omega) (by rw [f8]; omega))
        have HL2 := hide (fun (W : World) (h : Below W3.heap.size W3 W) => rLast_in o2 _ _ _ _ W (HZt.below h).ri (HZt.below h).rr Hin2 (by omega) (by omega) (by rw [f8]; omega))
        unfold opA at HC1 HL1
        obtain ⟨ck2, hck⟩ : ∃ c, chkO o2 = c := ⟨_, rfl⟩
        obtain ⟨la2, hla⟩ : ∃ c, lastO o2 = c := ⟨_, rfl⟩
        simp only [hck, f0, f1, f3, f4, f5, f6, f7, f8, f10, hl1, hl2] at HC1 HC2
        simp only [hla, f0, f1, f3, f4, f5, f6, f7, f8, f10, hl1, hl2] at HL1 HL2
        obtain ⟨q0, q1, q2, q3, q4, q5, q6, q7, q8, q9, q10⟩ := cells_op (unhide hBt)
        have hne := BelowOf.ne W3
        have Q0 : ∀ p : BelowOf W3, p.w.cell? ⟨bt, 0, none⟩ = some (.int .i64 o.ds) := fun p => cell_below q0 p.h
        have Q1 : ∀ p : BelowOf W3, p.w.cell? ⟨bt, 1, none⟩ = some (.int .i64 o.dq) := fun p => cell_below q1 p.h
        have Q2 : ∀ p : BelowOf W3, p.w.cell? ⟨bt, 2, none⟩ = some (.slice (some ⟨gd, 0, none⟩) o.deps.length c1) := fun p => cell_below q2 p.h
        have Q3 : ∀ p : BelowOf W3, p.w.cell? ⟨bt, 3, none⟩ = some (.int .i64 o.kind) := fun p => cell_below q3 p.h
        have Q4 : ∀ p : BelowOf W3, p.w.cell? ⟨bt, 4, none⟩ = some (.int .i64 o.it) := fun p => cell_below q4 p.h
        have Q5 : ∀ p : BelowOf W3, p.w.cell? ⟨bt, 5, none⟩ = some (.int .i64 o.is) := fun p => cell_below q5 p.h
        have Q6 : ∀ p : BelowOf W3, p.w.cell? ⟨bt, 6, none⟩ = some (.int .i64 o.rt) := fun p => cell_below q6 p.h
        have Q7 : ∀ p : BelowOf W3, p.w.cell? ⟨bt, 7, none⟩ = some (.int .i64 o.rs) := fun p => cell_below q7 p.h
        have Q8 : ∀ p : BelowOf W3, p.w.cell? ⟨bt, 8, none⟩ = some (.string o.text) := fun p => cell_below q8 p.h
        have Q9 : ∀ p : BelowOf W3, p.w.cell? ⟨bt, 9, none⟩ = some (.slice (some ⟨gg, 0, none⟩) o.gone.length c2) := fun p => cell_below q9 p.h
        have Q10 : ∀ p : BelowOf W3, p.w.cell? ⟨bt, 10, none⟩ = some (.int .i64 o.site) := fun p => cell_below q10 p.h
        clear ho2 Hin2 hl1 hl2 HZt f0 f1 f3 f4 f5 f6 f7 f8 f10 hck hla q0 q1 q2 q3 q4 q5 q6 q7 q8 q9 q10 hBt hTw
        go_wp2_with fail
        refine wp_region_quiet_below mixed (by kernel_rfl) ?_
        repeat (any_goals (first | go_big_quiet_step ((first | (go_at_call 9; exact below_of (unhide HC1 _ (BelowOf.h _))) | (go_at_call 10; exact below_of (unhide HC2 _ (BelowOf.h _))) | (go_at_call 11; exact below_of (unhide HL1 _ (BelowOf.h _))) | (go_at_call 12; exact below_of (unhide HL2 _ (BelowOf.h _))) | (go_at_call 7; exact below_of (unhide HK _)))) | quiet_step ((first | (go_at_call 9; exact below_of (unhide HC1 _ (BelowOf.h _))) | (go_at_call 10; exact below_of (unhide HC2 _ (BelowOf.h _))) | (go_at_call 11; exact below_of (unhide HL1 _ (BelowOf.h _))) | (go_at_call 12; exact below_of (unhide HL2 _ (BelowOf.h _))) | (go_at_call 7; exact below_of (unhide HK _))))))
        all_goals (refine wpQuiet_nil ?_; intro _ hw'; obtain ⟨pp, hw''⟩ := hw'; subst hw'')
        have HE := hide (bnext (unhide HBw3) pp.h)
        go_wp2
        go_ret
        exact ⟨rfl, unhide HE⟩
  · obtain ⟨j, rfl⟩ : ∃ j : Nat, iv = (j : Int) := ⟨iv.toNat, by omega⟩
    by_cases hdl : 0 < o.deps.length
    · have hn0 : (0 : Int) < (o.deps.length : Int) := by omega
      obtain ⟨k, hk, hkn⟩ : ∃ k : Nat, (j : Int) % (o.deps.length : Int) = (k : Int) ∧ k < o.deps.length := ⟨j % o.deps.length, (Int.natCast_emod _ _).symm, Nat.mod_lt _ hdl⟩
      have hkn' : (k : Int) < (o.deps.length : Int) := by omega
      obtain ⟨-, hex, hfr, -, -⟩ := (unhide hTw).cells
      obtain ⟨z0, s0⟩ := hex (k * 2) (by omega)
      obtain ⟨z1, s1⟩ := hex (k * 2 + 1) (by omega)
      have t0 := hfr (k * 2)
      have t1 := hfr (k * 2 + 1)
      obtain ⟨q0, q1, q2, q3, q4, q5, q6, q7, q8, q9, q10⟩ := cells_op (unhide hBt)
      have e0 := (unhide hBd).cell 0 _ rfl
      have e1 := (unhide hBd).cell 1 _ rfl
      have kpd : Kp (fun j => j = gd) W3 (((W3.setCell ⟨gd, k * 2, none⟩ (.int .i64 d1)).setCell ⟨gd, k * 2 + 1, none⟩ (.int .i64 d2)).drew) := by
        have h := ((Kp.set (N := fun j => j = gd) W3 ⟨gd, k * 2, none⟩ (.int .i64 d1) rfl).trans (Kp.set (N := fun j => j = gd) _ ⟨gd, k * 2 + 1, none⟩ (.int .i64 d2) rfl) (fun j e => .inl e))
        exact ⟨h.os, h.tape, h.output, h.size, h.block⟩
      have hTw2 : Hid (Tw (((W3.setCell ⟨gd, k * 2, none⟩ (.int .i64 d1)).setCell ⟨gd, k * 2 + 1, none⟩ (.int .i64 d2)).drew) W1.heap.size (o.deps.set k (d1, d2)) o.gone gd c1 gg c2) := hide (by
        have h := (unhide hTw).setd hkn d1 d2
        exact ⟨h.d, h.g⟩)
      have hBt2 := hide ((unhide hBt).kp kpd (by omega))
      have hBr2 := hide ((unhide hBr).kp kpd (by omega))
      have HBw4 := hide (kpd.below (unhide HBw3) (fun i e => by omega))
      clear hex hfr kpd
      go_upto_region 9 with fail
      go_region
      obtain ⟨Zd, hZd⟩ : ∃ Z, ((W3.setCell ⟨gd, k * 2, none⟩ (.int .i64 d1)).setCell ⟨gd, k * 2 + 1, none⟩ (.int .i64 d2)).drew = Z := ⟨_, rfl⟩
      rw [hZd] at hTw2 hBt2 hBr2 HBw4 ⊢
      clear hTw hBt hBr hBd HBw3 hk hkn hkn' s0 s1 t0 t1 e0 e1 hZd q0 q1 q2 q3 q4 q5 q6 q7 q8 q9 q10
      have hTw := hTw2
      have hBt := hBt2
      have hBr := hBr2
      have HBw3 := HBw4
      clear hTw2 hBt2 hBr2 HBw4
      by_cases hgl : 0 < o.gone.length
      · have hg0 : (0 : Int) < (o.gone.length : Int) := by omega
        obtain ⟨k2, hk2, hkn2⟩ : ∃ k : Nat, (j : Int) % (o.gone.length : Int) = (k : Int) ∧ k < o.gone.length := ⟨j % o.gone.length, (Int.natCast_emod _ _).symm, Nat.mod_lt _ hgl⟩
        have hkn2' : (k2 : Int) < (o.gone.length : Int) := by omega
        obtain ⟨-, -, -, hex, hfr⟩ := (unhide hTw).cells
        obtain ⟨z0, s0⟩ := hex (k2 * 3) (by omega)
        obtain ⟨z1, s1⟩ := hex (k2 * 3 + 1) (by omega)
        obtain ⟨z2, s2⟩ := hex (k2 * 3 + 2) (by omega)
        have t0 := hfr (k2 * 3)
        have t1 := hfr (k2 * 3 + 1)
        have t2 := hfr (k2 * 3 + 2)
        obtain ⟨q0, q1, q2, q3, q4, q5, q6, q7, q8, q9, q10⟩ := cells_op (unhide hBt)
        have e0 := (unhide hBr).cell 0 _ rfl
        have e1 := (unhide hBr).cell 1 _ rfl
        have e2 := (unhide hBr).cell 2 _ rfl
        have kpd : Kp (fun j => j = gg) Zd ((((Zd.setCell ⟨gg, k2 * 3, none⟩ (.int .i64 r1)).setCell ⟨gg, k2 * 3 + 1, none⟩ (.int .i64 r2)).setCell ⟨gg, k2 * 3 + 2, none⟩ (.int .i64 r3)).drew) := by
          have h := (((Kp.set (N := fun j => j = gg) Zd ⟨gg, k2 * 3, none⟩ (.int .i64 r1) rfl).trans (Kp.set (N := fun j => j = gg) _ ⟨gg, k2 * 3 + 1, none⟩ (.int .i64 r2) rfl) (fun j e => .inl e)).trans (Kp.set (N := fun j => j = gg) _ ⟨gg, k2 * 3 + 2, none⟩ (.int .i64 r3) rfl) (fun j e => .inl e))
          exact ⟨h.os, h.tape, h.output, h.size, h.block⟩
        have hTw2 : Hid (Tw ((((Zd.setCell ⟨gg, k2 * 3, none⟩ (.int .i64 r1)).setCell ⟨gg, k2 * 3 + 1, none⟩ (.int .i64 r2)).setCell ⟨gg, k2 * 3 + 2, none⟩ (.int .i64 r3)).drew) W1.heap.size (o.deps.set k (d1, d2)) (o.gone.set k2 ((r1, r2), r3)) gd c1 gg c2) := hide (by
          have h := (unhide hTw).setg hkn2 r1 r2 r3
          exact ⟨h.d, h.g⟩)
        have hBt2 := hide ((unhide hBt).kp kpd (by omega))
        have HBw4 := hide (kpd.below (unhide HBw3) (fun i e => by omega))
        clear hex hfr kpd
        go_upto_region 11 with fail
        go_region
        obtain ⟨Zg, hZg⟩ : ∃ Z, (((Zd.setCell ⟨gg, k2 * 3, none⟩ (.int .i64 r1)).setCell ⟨gg, k2 * 3 + 1, none⟩ (.int .i64 r2)).setCell ⟨gg, k2 * 3 + 2, none⟩ (.int .i64 r3)).drew = Z := ⟨_, rfl⟩
        rw [hZg] at hTw2 hBt2 HBw4 ⊢
        clear hTw hBt hBr HBw3 hk2 hkn2 hkn2' s0 s1 s2 t0 t1 t2 e0 e1 e2 hZg q0 q1 q2 q3 q4 q5 q6 q7 q8 q9 q10
        have hTw := hTw2
        have hBt := hBt2
        have HBw3 := HBw4
        clear hTw2 hBt2 HBw4
        obtain ⟨o2, ho2⟩ : ∃ o2 : Opn, o2 = { o with deps := o.deps.set k (d1, d2), gone := o.gone.set k2 ((r1, r2), r3) } := ⟨_, rfl⟩
        have Hin2 : InO o2 := by rw [ho2]; exact ((unhide Hin).setd k (d1, d2)).setg k2 w2
        have hl1 : o2.deps.length = o.deps.length := by rw [ho2]; exact List.length_set
        have hl2 : o2.gone.length = o.gone.length := by rw [ho2]; exact List.length_set
        have HZt : Tw Zg W1.heap.size o2.deps o2.gone gd c1 gg c2 := by rw [ho2]; exact unhide hTw
        have f0 : o2.ds = o.ds := by rw [ho2]
        have f1 : o2.dq = o.dq := by rw [ho2]
        have f3 : o2.kind = o.kind := by rw [ho2]
        have f4 : o2.it = o.it := by rw [ho2]
        have f5 : o2.is = o.is := by rw [ho2]
        have f6 : o2.rt = o.rt := by rw [ho2]
        have f7 : o2.rs = o.rs := by rw [ho2]
        have f8 : o2.text = o.text := by rw [ho2]
        have f10 : o2.site = o.site := by rw [ho2]
        have HC1 := hide (fun (W : World) (h : Below Zg.heap.size Zg W) => OCheck_in o2 _ _ W (HZt.below h).ri (HZt.below h).rr Hin2)
        have HL1 := hide (fun (W : World) (h : Below Zg.heap.size Zg W) => OLast_in o2 _ _ W (HZt.below h).ri (HZt.below h).rr Hin2)
        have HC2 := hide (fun (W : World) (h : Below Zg.heap.size Zg W) => rCheck_in o2 _ _ _ _ W (HZt.below h).ri (HZt.below h).rr Hin2 (by omega) (by omega) (by rw [f8]; omega))
        have HL2 := hide (fun (W : World) (h : Below Zg.heap.size Zg W) => rLast_in o2 _ _ _ _ W (HZt.below h).ri (HZt.below h).rr Hin2 (by omega) (by omega) (by rw [f8]; omega))
        unfold opA at HC1 HL1
        obtain ⟨ck2, hck⟩ : ∃ c, chkO o2 = c := ⟨_, rfl⟩
        obtain ⟨la2, hla⟩ : ∃ c, lastO o2 = c := ⟨_, rfl⟩
        simp only [hck, f0, f1, f3, f4, f5, f6, f7, f8, f10, hl1, hl2] at HC1 HC2
        simp only [hla, f0, f1, f3, f4, f5, f6, f7, f8, f10, hl1, hl2] at HL1 HL2
        obtain ⟨q0, q1, q2, q3, q4, q5, q6, q7, q8, q9, q10⟩ := cells_op (unhide hBt)
        have hne := BelowOf.ne Zg
        have Q0 : ∀ p : BelowOf Zg, p.w.cell? ⟨bt, 0, none⟩ = some (.int .i64 o.ds) := fun p => cell_below q0 p.h
        have Q1 : ∀ p : BelowOf Zg, p.w.cell? ⟨bt, 1, none⟩ = some (.int .i64 o.dq) := fun p => cell_below q1 p.h
        have Q2 : ∀ p : BelowOf Zg, p.w.cell? ⟨bt, 2, none⟩ = some (.slice (some ⟨gd, 0, none⟩) o.deps.length c1) := fun p => cell_below q2 p.h
        have Q3 : ∀ p : BelowOf Zg, p.w.cell? ⟨bt, 3, none⟩ = some (.int .i64 o.kind) := fun p => cell_below q3 p.h
        have Q4 : ∀ p : BelowOf Zg, p.w.cell? ⟨bt, 4, none⟩ = some (.int .i64 o.it) := fun p => cell_below q4 p.h
        have Q5 : ∀ p : BelowOf Zg, p.w.cell? ⟨bt, 5, none⟩ = some (.int .i64 o.is) := fun p => cell_below q5 p.h
        have Q6 : ∀ p : BelowOf Zg, p.w.cell? ⟨bt, 6, none⟩ = some (.int .i64 o.rt) := fun p => cell_below q6 p.h
        have Q7 : ∀ p : BelowOf Zg, p.w.cell? ⟨bt, 7, none⟩ = some (.int .i64 o.rs) := fun p => cell_below q7 p.h
        have Q8 : ∀ p : BelowOf Zg, p.w.cell? ⟨bt, 8, none⟩ = some (.string o.text) := fun p => cell_below q8 p.h
        have Q9 : ∀ p : BelowOf Zg, p.w.cell? ⟨bt, 9, none⟩ = some (.slice (some ⟨gg, 0, none⟩) o.gone.length c2) := fun p => cell_below q9 p.h
        have Q10 : ∀ p : BelowOf Zg, p.w.cell? ⟨bt, 10, none⟩ = some (.int .i64 o.site) := fun p => cell_below q10 p.h
        clear ho2 Hin2 hl1 hl2 HZt f0 f1 f3 f4 f5 f6 f7 f8 f10 hck hla q0 q1 q2 q3 q4 q5 q6 q7 q8 q9 q10 hBt hTw
        go_wp2_with fail
        refine wp_region_quiet_below mixed (by kernel_rfl) ?_
        repeat (any_goals (first | go_big_quiet_step ((first | (go_at_call 9; exact below_of (unhide HC1 _ (BelowOf.h _))) | (go_at_call 10; exact below_of (unhide HC2 _ (BelowOf.h _))) | (go_at_call 11; exact below_of (unhide HL1 _ (BelowOf.h _))) | (go_at_call 12; exact below_of (unhide HL2 _ (BelowOf.h _))) | (go_at_call 7; exact below_of (unhide HK _)))) | quiet_step ((first | (go_at_call 9; exact below_of (unhide HC1 _ (BelowOf.h _))) | (go_at_call 10; exact below_of (unhide HC2 _ (BelowOf.h _))) | (go_at_call 11; exact below_of (unhide HL1 _ (BelowOf.h _))) | (go_at_call 12; exact below_of (unhide HL2 _ (BelowOf.h _))) | (go_at_call 7; exact below_of (unhide HK _))))))
        all_goals (refine wpQuiet_nil ?_; intro _ hw'; obtain ⟨pp, hw''⟩ := hw'; subst hw'')
        have HE := hide (bnext (unhide HBw3) pp.h)
        go_wp2
        go_ret
        exact ⟨rfl, unhide HE⟩
      · have hg0 : ¬ (0 : Int) < (o.gone.length : Int) := by omega
        obtain ⟨q0, q1, q2, q3, q4, q5, q6, q7, q8, q9, q10⟩ := cells_op (unhide hBt)
        go_upto_region 12 with fail
        clear q0 q1 q2 q3 q4 q5 q6 q7 q8 q9 q10
        obtain ⟨o2, ho2⟩ : ∃ o2 : Opn, o2 = { o with deps := o.deps.set k (d1, d2) } := ⟨_, rfl⟩
        have Hin2 : InO o2 := by rw [ho2]; exact (unhide Hin).setd k (d1, d2)
        have hl1 : o2.deps.length = o.deps.length := by rw [ho2]; exact List.length_set
        have hl2 : o2.gone.length = o.gone.length := by rw [ho2]
        have HZt : Tw Zd W1.heap.size o2.deps o2.gone gd c1 gg c2 := by rw [ho2]; exact unhide hTw
        have f0 : o2.ds = o.ds := by rw [ho2]
        have f1 : o2.dq = o.dq := by rw [ho2]
        have f3 : o2.kind = o.kind := by rw [ho2]
        have f4 : o2.it = o.it := by rw [ho2]
        have f5 : o2.is = o.is := by rw [ho2]
        have f6 : o2.rt = o.rt := by rw [ho2]
        have f7 : o2.rs = o.rs := by rw [ho2]
        have f8 : o2.text = o.text := by rw [ho2]
        have f10 : o2.site = o.site := by rw [ho2]
        have HC1 := hide (fun (W : World) (h : Below Zd.heap.size Zd W) => OCheck_in o2 _ _ W (HZt.below h).ri (HZt.below h).rr Hin2)
        have HL1 := hide (fun (W : World) (h : Below Zd.heap.size Zd W) => OLast_in o2 _ _ W (HZt.below h).ri (HZt.below h).rr Hin2)
        have HC2 := hide (fun (W : World) (h : Below Zd.heap.size Zd W) => rCheck_in o2 _ _ _ _ W (HZt.below h).ri (HZt.below h).rr Hin2 (by omega) (by omega) (by rw [f8]; omega))
        have HL2 := hide (fun (W : World) (h : Below Zd.heap.size Zd W) => rLast_in o2 _ _ _ _ W (HZt.below h).ri (HZt.below h).rr Hin2 (by omega) (by omega) (by rw [f8]; omega))
        unfold opA at HC1 HL1
        obtain ⟨ck2, hck⟩ : ∃ c, chkO o2 = c := ⟨_, rfl⟩
        obtain ⟨la2, hla⟩ : ∃ c, lastO o2 = c := ⟨_, rfl⟩
        simp only [hck, f0, f1, f3, f4, f5, f6, f7, f8, f10, hl1, hl2] at HC1 HC2
        simp only [hla, f0, f1, f3, f4, f5, f6, f7, f8, f10, hl1, hl2] at HL1 HL2
        obtain ⟨q0, q1, q2, q3, q4, q5, q6, q7, q8, q9, q10⟩ := cells_op (unhide hBt)
        have hne := BelowOf.ne Zd
        have Q0 : ∀ p : BelowOf Zd, p.w.cell? ⟨bt, 0, none⟩ = some (.int .i64 o.ds) := fun p => cell_below q0 p.h
        have Q1 : ∀ p : BelowOf Zd, p.w.cell? ⟨bt, 1, none⟩ = some (.int .i64 o.dq) := fun p => cell_below q1 p.h
        have Q2 : ∀ p : BelowOf Zd, p.w.cell? ⟨bt, 2, none⟩ = some (.slice (some ⟨gd, 0, none⟩) o.deps.length c1) := fun p => cell_below q2 p.h
        have Q3 : ∀ p : BelowOf Zd, p.w.cell? ⟨bt, 3, none⟩ = some (.int .i64 o.kind) := fun p => cell_below q3 p.h
        have Q4 : ∀ p : BelowOf Zd, p.w.cell? ⟨bt, 4, none⟩ = some (.int .i64 o.it) := fun p => cell_below q4 p.h
        have Q5 : ∀ p : BelowOf Zd, p.w.cell? ⟨bt, 5, none⟩ = some (.int .i64 o.is) := fun p => cell_below q5 p.h
        have Q6 : ∀ p : BelowOf Zd, p.w.cell? ⟨bt, 6, none⟩ = some (.int .i64 o.rt) := fun p => cell_below q6 p.h
        have Q7 : ∀ p : BelowOf Zd, p.w.cell? ⟨bt, 7, none⟩ = some (.int .i64 o.rs) := fun p => cell_below q7 p.h
        have Q8 : ∀ p : BelowOf Zd, p.w.cell? ⟨bt, 8, none⟩ = some (.string o.text) := fun p => cell_below q8 p.h
        have Q9 : ∀ p : BelowOf Zd, p.w.cell? ⟨bt, 9, none⟩ = some (.slice (some ⟨gg, 0, none⟩) o.gone.length c2) := fun p => cell_below q9 p.h
        have Q10 : ∀ p : BelowOf Zd, p.w.cell? ⟨bt, 10, none⟩ = some (.int .i64 o.site) := fun p => cell_below q10 p.h
        clear ho2 Hin2 hl1 hl2 HZt f0 f1 f3 f4 f5 f6 f7 f8 f10 hck hla q0 q1 q2 q3 q4 q5 q6 q7 q8 q9 q10 hBt hTw
        go_wp2_with fail
        refine wp_region_quiet_below mixed (by kernel_rfl) ?_
        repeat (any_goals (first | go_big_quiet_step ((first | (go_at_call 9; exact below_of (unhide HC1 _ (BelowOf.h _))) | (go_at_call 10; exact below_of (unhide HC2 _ (BelowOf.h _))) | (go_at_call 11; exact below_of (unhide HL1 _ (BelowOf.h _))) | (go_at_call 12; exact below_of (unhide HL2 _ (BelowOf.h _))) | (go_at_call 7; exact below_of (unhide HK _)))) | quiet_step ((first | (go_at_call 9; exact below_of (unhide HC1 _ (BelowOf.h _))) | (go_at_call 10; exact below_of (unhide HC2 _ (BelowOf.h _))) | (go_at_call 11; exact below_of (unhide HL1 _ (BelowOf.h _))) | (go_at_call 12; exact below_of (unhide HL2 _ (BelowOf.h _))) | (go_at_call 7; exact below_of (unhide HK _))))))
        all_goals (refine wpQuiet_nil ?_; intro _ hw'; obtain ⟨pp, hw''⟩ := hw'; subst hw'')
        have HE := hide (bnext (unhide HBw3) pp.h)
        go_wp2
        go_ret
        exact ⟨rfl, unhide HE⟩
    · have hn0 : ¬ (0 : Int) < (o.deps.length : Int) := by omega
      by_cases hgl : 0 < o.gone.length
      · have hg0 : (0 : Int) < (o.gone.length : Int) := by omega
        obtain ⟨k2, hk2, hkn2⟩ : ∃ k : Nat, (j : Int) % (o.gone.length : Int) = (k : Int) ∧ k < o.gone.length := ⟨j % o.gone.length, (Int.natCast_emod _ _).symm, Nat.mod_lt _ hgl⟩
        have hkn2' : (k2 : Int) < (o.gone.length : Int) := by omega
        obtain ⟨-, -, -, hex, hfr⟩ := (unhide hTw).cells
        obtain ⟨z0, s0⟩ := hex (k2 * 3) (by omega)
        obtain ⟨z1, s1⟩ := hex (k2 * 3 + 1) (by omega)
        obtain ⟨z2, s2⟩ := hex (k2 * 3 + 2) (by omega)
        have t0 := hfr (k2 * 3)
        have t1 := hfr (k2 * 3 + 1)
        have t2 := hfr (k2 * 3 + 2)
        obtain ⟨q0, q1, q2, q3, q4, q5, q6, q7, q8, q9, q10⟩ := cells_op (unhide hBt)
        have e0 := (unhide hBr).cell 0 _ rfl
        have e1 := (unhide hBr).cell 1 _ rfl
        have e2 := (unhide hBr).cell 2 _ rfl
        have kpd : Kp (fun j => j = gg) W3 ((((W3.setCell ⟨gg, k2 * 3, none⟩ (.int .i64 r1)).setCell ⟨gg, k2 * 3 + 1, none⟩ (.int .i64 r2)).setCell ⟨gg, k2 * 3 + 2, none⟩ (.int .i64 r3)).drew) := by
          have h := (((Kp.set (N := fun j => j = gg) W3 ⟨gg, k2 * 3, none⟩ (.int .i64 r1) rfl).trans (Kp.set (N := fun j => j = gg) _ ⟨gg, k2 * 3 + 1, none⟩ (.int .i64 r2) rfl) (fun j e => .inl e)).trans (Kp.set (N := fun j => j = gg) _ ⟨gg, k2 * 3 + 2, none⟩ (.int .i64 r3) rfl) (fun j e => .inl e))
          exact ⟨h.os, h.tape, h.output, h.size, h.block⟩
        have hTw2 : Hid (Tw ((((W3.setCell ⟨gg, k2 * 3, none⟩ (.int .i64 r1)).setCell ⟨gg, k2 * 3 + 1, none⟩ (.int .i64 r2)).setCell ⟨gg, k2 * 3 + 2, none⟩ (.int .i64 r3)).drew) W1.heap.size o.deps (o.gone.set k2 ((r1, r2), r3)) gd c1 gg c2) := hide (by
          have h := (unhide hTw).setg hkn2 r1 r2 r3
          exact ⟨h.d, h.g⟩)
        have hBt2 := hide ((unhide hBt).kp kpd (by omega))
        have HBw4 := hide (kpd.below (unhide HBw3) (fun i e => by omega))
        clear hex hfr kpd
        go_upto_region 11 with fail
        go_region
        obtain ⟨Zg, hZg⟩ : ∃ Z, (((W3.setCell ⟨gg, k2 * 3, none⟩ (.int .i64 r1)).setCell ⟨gg, k2 * 3 + 1, none⟩ (.int .i64 r2)).setCell ⟨gg, k2 * 3 + 2, none⟩ (.int .i64 r3)).drew = Z := ⟨_, rfl⟩
        rw [hZg] at hTw2 hBt2 HBw4 ⊢
        clear hTw hBt hBr HBw3 hk2 hkn2 hkn2' s0 s1 s2 t0 t1 t2 e0 e1 e2 hZg q0 q1 q2 q3 q4 q5 q6 q7 q8 q9 q10
        have hTw := hTw2
        have hBt := hBt2
        have HBw3 := HBw4
        clear hTw2 hBt2 HBw4
        obtain ⟨o2, ho2⟩ : ∃ o2 : Opn, o2 = { o with gone := o.gone.set k2 ((r1, r2), r3) } := ⟨_, rfl⟩
        have Hin2 : InO o2 := by rw [ho2]; exact (unhide Hin).setg k2 w2
        have hl1 : o2.deps.length = o.deps.length := by rw [ho2]
        have hl2 : o2.gone.length = o.gone.length := by rw [ho2]; exact List.length_set
        have HZt : Tw Zg W1.heap.size o2.deps o2.gone gd c1 gg c2 := by rw [ho2]; exact unhide hTw
        have f0 : o2.ds = o.ds := by rw [ho2]
        have f1 : o2.dq = o.dq := by rw [ho2]
        have f3 : o2.kind = o.kind := by rw [ho2]
        have f4 : o2.it = o.it := by rw [ho2]
        have f5 : o2.is = o.is := by rw [ho2]
        have f6 : o2.rt = o.rt := by rw [ho2]
        have f7 : o2.rs = o.rs := by rw [ho2]
        have f8 : o2.text = o.text := by rw [ho2]
        have f10 : o2.site = o.site := by rw [ho2]
        have HC1 := hide (fun (W : World) (h : Below Zg.heap.size Zg W) => OCheck_in o2 _ _ W (HZt.below h).ri (HZt.below h).rr Hin2)
        have HL1 := hide (fun (W : World) (h : Below Zg.heap.size Zg W) => OLast_in o2 _ _ W (HZt.below h).ri (HZt.below h).rr Hin2)
        have HC2 := hide (fun (W : World) (h : Below Zg.heap.size Zg W) => rCheck_in o2 _ _ _ _ W (HZt.below h).ri (HZt.below h).rr Hin2 (by omega) (by omega) (by rw [f8]; omega))
        have HL2 := hide (fun (W : World) (h : Below Zg.heap.size Zg W) => rLast_in o2 _ _ _ _ W (HZt.below h).ri (HZt.below h).rr Hin2 (by omega) (by omega) (by rw [f8]; omega))
        unfold opA at HC1 HL1
        obtain ⟨ck2, hck⟩ : ∃ c, chkO o2 = c := ⟨_, rfl⟩
        obtain ⟨la2, hla⟩ : ∃ c, lastO o2 = c := ⟨_, rfl⟩
        simp only [hck, f0, f1, f3, f4, f5, f6, f7, f8, f10, hl1, hl2] at HC1 HC2
        simp only [hla, f0, f1, f3, f4, f5, f6, f7, f8, f10, hl1, hl2] at HL1 HL2
        obtain ⟨q0, q1, q2, q3, q4, q5, q6, q7, q8, q9, q10⟩ := cells_op (unhide hBt)
        have hne := BelowOf.ne Zg
        have Q0 : ∀ p : BelowOf Zg, p.w.cell? ⟨bt, 0, none⟩ = some (.int .i64 o.ds) := fun p => cell_below q0 p.h
        have Q1 : ∀ p : BelowOf Zg, p.w.cell? ⟨bt, 1, none⟩ = some (.int .i64 o.dq) := fun p => cell_below q1 p.h
        have Q2 : ∀ p : BelowOf Zg, p.w.cell? ⟨bt, 2, none⟩ = some (.slice (some ⟨gd, 0, none⟩) o.deps.length c1) := fun p => cell_below q2 p.h
        have Q3 : ∀ p : BelowOf Zg, p.w.cell? ⟨bt, 3, none⟩ = some (.int .i64 o.kind) := fun p => cell_below q3 p.h
        have Q4 : ∀ p : BelowOf Zg, p.w.cell? ⟨bt, 4, none⟩ = some (.int .i64 o.it) := fun p => cell_below q4 p.h
        have Q5 : ∀ p : BelowOf Zg, p.w.cell? ⟨bt, 5, none⟩ = some (.int .i64 o.is) := fun p => cell_below q5 p.h
        have Q6 : ∀ p : BelowOf Zg, p.w.cell? ⟨bt, 6, none⟩ = some (.int .i64 o.rt) := fun p => cell_below q6 p.h
        have Q7 : ∀ p : BelowOf Zg, p.w.cell? ⟨bt, 7, none⟩ = some (.int .i64 o.rs) := fun p => cell_below q7 p.h
        have Q8 : ∀ p : BelowOf Zg, p.w.cell? ⟨bt, 8, none⟩ = some (.string o.text) := fun p => cell_below q8 p.h
        have Q9 : ∀ p : BelowOf Zg, p.w.cell? ⟨bt, 9, none⟩ = some (.slice (some ⟨gg, 0, none⟩) o.gone.length c2) := fun p => cell_below q9 p.h
        have Q10 : ∀ p : BelowOf Zg, p.w.cell? ⟨bt, 10, none⟩ = some (.int .i64 o.site) := fun p => cell_below q10 p.h
        clear ho2 Hin2 hl1 hl2 HZt f0 f1 f3 f4 f5 f6 f7 f8 f10 hck hla q0 q1 q2 q3 q4 q5 q6 q7 q8 q9 q10 hBt hTw
        go_wp2_with fail
        refine wp_region_quiet_below mixed (by kernel_rfl) ?_
        repeat (any_goals (first | go_big_quiet_step ((first | (go_at_call 9; exact below_of (unhide HC1 _ (BelowOf.h _))) | (go_at_call 10; exact below_of (unhide HC2 _ (BelowOf.h _))) | (go_at_call 11; exact below_of (unhide HL1 _ (BelowOf.h _))) | (go_at_call 12; exact below_of (unhide HL2 _ (BelowOf.h _))) | (go_at_call 7; exact below_of (unhide HK _)))) | quiet_step ((first | (go_at_call 9; exact below_of (unhide HC1 _ (BelowOf.h _))) | (go_at_call 10; exact below_of (unhide HC2 _ (BelowOf.h _))) | (go_at_call 11; exact below_of (unhide HL1 _ (BelowOf.h _))) | (go_at_call 12; exact below_of (unhide HL2 _ (BelowOf.h _))) | (go_at_call 7; exact below_of (unhide HK _))))))
        all_goals (refine wpQuiet_nil ?_; intro _ hw'; obtain ⟨pp, hw''⟩ := hw'; subst hw'')
        have HE := hide (bnext (unhide HBw3) pp.h)
        go_wp2
        go_ret
        exact ⟨rfl, unhide HE⟩
      · have hg0 : ¬ (0 : Int) < (o.gone.length : Int) := by omega
        obtain ⟨q0, q1, q2, q3, q4, q5, q6, q7, q8, q9, q10⟩ := cells_op (unhide hBt)
        go_upto_region 12 with fail
        clear q0 q1 q2 q3 q4 q5 q6 q7 q8 q9 q10
        obtain ⟨o2, ho2⟩ : ∃ o2 : Opn, o2 = o := ⟨_, rfl⟩
        have Hin2 : InO o2 := by rw [ho2]; exact unhide Hin
        have hl1 : o2.deps.length = o.deps.length := by rw [ho2]
        have hl2 : o2.gone.length = o.gone.length := by rw [ho2]
        have HZt : Tw W3 W1.heap.size o2.deps o2.gone gd c1 gg c2 := by rw [ho2]; exact unhide hTw
        have f0 : o2.ds = o.ds := by rw [ho2]
        have f1 : o2.dq = o.dq := by rw [ho2]
        have f3 : o2.kind = o.kind := by rw [ho2]
        have f4 : o2.it = o.it := by rw [ho2]
        have f5 : o2.is = o.is := by rw [ho2]
        have f6 : o2.rt = o.rt := by rw [ho2]
        have f7 : o2.rs = o.rs := by rw [ho2]
        have f8 : o2.text = o.text := by rw [ho2]
        have f10 : o2.site = o.site := by rw [ho2]
        have HC1 := hide (fun (W : World) (h : Below W3.heap.size W3 W) => OCheck_in o2 _ _ W (HZt.below h).ri (HZt.below h).rr Hin2)
        have HL1 := hide (fun (W : World) (h : Below W3.heap.size W3 W) => OLast_in o2 _ _ W (HZt.below h).ri (HZt.below h).rr Hin2)
        have HC2 := hide (fun (W : World) (h : Below W3.heap.size W3 W) => rCheck_in o2 _ _ _ _ W (HZt.below h).ri (HZt.below h).rr Hin2 (by omega) (by omega) (by rw [f8]; omega))
        have HL2 := hide (fun (W : World) (h : Below W3.heap.size W3 W) => rLast_in o2 _ _ _ _ W (HZt.below h).ri (HZt.below h).rr Hin2 (by omega) (by omega) (by rw [f8]; omega))
        unfold opA at HC1 HL1
        obtain ⟨ck2, hck⟩ : ∃ c, chkO o2 = c := ⟨_, rfl⟩
        obtain ⟨la2, hla⟩ : ∃ c, lastO o2 = c := ⟨_, rfl⟩
        simp only [hck, f0, f1, f3, f4, f5, f6, f7, f8, f10, hl1, hl2] at HC1 HC2
        simp only [hla, f0, f1, f3, f4, f5, f6, f7, f8, f10, hl1, hl2] at HL1 HL2
        obtain ⟨q0, q1, q2, q3, q4, q5, q6, q7, q8, q9, q10⟩ := cells_op (unhide hBt)
        have hne := BelowOf.ne W3
        have Q0 : ∀ p : BelowOf W3, p.w.cell? ⟨bt, 0, none⟩ = some (.int .i64 o.ds) := fun p => cell_below q0 p.h
        have Q1 : ∀ p : BelowOf W3, p.w.cell? ⟨bt, 1, none⟩ = some (.int .i64 o.dq) := fun p => cell_below q1 p.h
        have Q2 : ∀ p : BelowOf W3, p.w.cell? ⟨bt, 2, none⟩ = some (.slice (some ⟨gd, 0, none⟩) o.deps.length c1) := fun p => cell_below q2 p.h
        have Q3 : ∀ p : BelowOf W3, p.w.cell? ⟨bt, 3, none⟩ = some (.int .i64 o.kind) := fun p => cell_below q3 p.h
        have Q4 : ∀ p : BelowOf W3, p.w.cell? ⟨bt, 4, none⟩ = some (.int .i64 o.it) := fun p => cell_below q4 p.h
        have Q5 : ∀ p : BelowOf W3, p.w.cell? ⟨bt, 5, none⟩ = some (.int .i64 o.is) := fun p => cell_below q5 p.h
        have Q6 : ∀ p : BelowOf W3, p.w.cell? ⟨bt, 6, none⟩ = some (.int .i64 o.rt) := fun p => cell_below q6 p.h
        have Q7 : ∀ p : BelowOf W3, p.w.cell? ⟨bt, 7, none⟩ = some (.int .i64 o.rs) := fun p => cell_below q7 p.h
        have Q8 : ∀ p : BelowOf W3, p.w.cell? ⟨bt, 8, none⟩ = some (.string o.text) := fun p => cell_below q8 p.h
        have Q9 : ∀ p : BelowOf W3, p.w.cell? ⟨bt, 9, none⟩ = some (.slice (some ⟨gg, 0, none⟩) o.gone.length c2) := fun p => cell_below q9 p.h
        have Q10 : ∀ p : BelowOf W3, p.w.cell? ⟨bt, 10, none⟩ = some (.int .i64 o.site) := fun p => cell_below q10 p.h
        clear ho2 Hin2 hl1 hl2 HZt f0 f1 f3 f4 f5 f6 f7 f8 f10 hck hla q0 q1 q2 q3 q4 q5 q6 q7 q8 q9 q10 hBt hTw
        go_wp2_with fail
        refine wp_region_quiet_below mixed (by kernel_rfl) ?_
        repeat (any_goals (first | go_big_quiet_step ((first | (go_at_call 9; exact below_of (unhide HC1 _ (BelowOf.h _))) | (go_at_call 10; exact below_of (unhide HC2 _ (BelowOf.h _))) | (go_at_call 11; exact below_of (unhide HL1 _ (BelowOf.h _))) | (go_at_call 12; exact below_of (unhide HL2 _ (BelowOf.h _))) | (go_at_call 7; exact below_of (unhide HK _)))) | quiet_step ((first | (go_at_call 9; exact below_of (unhide HC1 _ (BelowOf.h _))) | (go_at_call 10; exact below_of (unhide HC2 _ (BelowOf.h _))) | (go_at_call 11; exact below_of (unhide HL1 _ (BelowOf.h _))) | (go_at_call 12; exact below_of (unhide HL2 _ (BelowOf.h _))) | (go_at_call 7; exact below_of (unhide HK _))))))
        all_goals (refine wpQuiet_nil ?_; intro _ hw'; obtain ⟨pp, hw''⟩ := hw'; subst hw'')
        have HE := hide (bnext (unhide HBw3) pp.h)
        go_wp2
        go_ret
        exact ⟨rfl, unhide HE⟩

theorem own : ownKnob Tryz.prog.godebug = none := by kernel_rfl
theorem laidOut2 : laidOutB Tryz.prog = true := by kernel_rfl

set_option maxRecDepth 100000 in
theorem lifted (os : Os) (started : os.Started) (H : Type) (enc : TypeId × Value → H) :
    ReturnsInHanded {} Tryz.checked os 3 .any (Rows.opChecksSpec.pre6 enc Tryz.prog Tryz.f3 Rows.opChecksRow.domain false) (Rows.opChecksSpec.post enc Tryz.prog Tryz.f3 false true false false) := by
  refine returnsInHanded_of_change (C := Tryz.checked) own started (by kernel_rfl) Tryz.func3
    (ChangeSpec.witness6 (enc := enc) (C := Tryz.checked) false ⟨#[], #[.agg #[.int .i64 0, .int .i64 0, .slice none 0 0, .int .i64 0, .int .i64 0, .int .i64 0, .int .i64 0, .int .i64 0, .string ByteArray.empty, .slice none 0 0, .int .i64 0], .agg #[.int .i64 0, .int .i64 0], .agg #[.int .i64 0, .int .i64 0, .int .i64 0], .int .i64 0], []⟩ 8 (by kernel_rfl) (by kernel_rfl) (by kernel_rfl) (by kernel_rfl)) ?_
  intro W base args ds gs before hval0 hW hcnd _
  have hval : ∀ (j : Nat) t v, Tryz.f3.params[j]? = some t → args[j]? = some v → Value.okWide Tryz.prog W .any base t v := hval0
  have hW' := hW
  obtain ⟨p, q, hA0, hV, rfl, hfz, hnd⟩ := hW
  have hA : DataW.TrodAll enc Tryz.prog W 0 (fun _ => true) true Tryz.f3.params.toList args.toList ds p := hA0
  rw [Tryz.params3] at hA hval
  obtain ⟨v0, vs0, d0, ds0, p0, q0, hargs, rfl, rfl, h0, r0⟩ := trodAll_cons hA
  obtain ⟨v1, vs1, d1, ds1, p1, q1, rfl, rfl, rfl, h1, r1⟩ := trodAll_cons r0
  obtain ⟨v2, vs2, d2, ds2, p2, q2, rfl, rfl, rfl, h2, r2⟩ := trodAll_cons r1
  obtain ⟨v3, vs3, d3, ds3, p3, q3, rfl, rfl, rfl, h3, r3⟩ := trodAll_cons r2
  obtain ⟨rfl, rfl, rfl⟩ := trodAll_nil r3
  obtain rfl : args = #[v0, v1, v2, v3] := by cases args; simp_all
  obtain ⟨rfl, rfl⟩ := trodVars_none hV
  have k0 := h0
  have lt0 : ∀ x ∈ p0, x.block < W.heap.size := by obtain ⟨m, hm⟩ := k0; exact DataW.trod_lt m _ _ _ hm
  obtain ⟨o0, ad0, ag0, cd0, cg0, rfl, w0⟩ := open_op (hval 0 30 v0 rfl rfl) h0
  have k1 := h1
  have lt1 : ∀ x ∈ p1, x.block < W.heap.size := by obtain ⟨m, hm⟩ := k1; exact DataW.trod_lt m _ _ _ hm
  obtain ⟨a1, b1, rfl, w1⟩ := open_dot (hval 1 23 v1 rfl rfl) h1
  have k2 := h2
  have lt2 : ∀ x ∈ p2, x.block < W.heap.size := by obtain ⟨m, hm⟩ := k2; exact DataW.trod_lt m _ _ _ hm
  obtain ⟨a2, b2, c2, rfl, w2⟩ := open_run (hval 2 32 v2 rfl rfl) h2
  obtain ⟨a3, rfl, rfl, rfl, w3⟩ := open_int Tryz.underlying3 (hval 3 3 v3 rfl rfl) h3
  clear hA0 hval0
  refine (walk o0 ad0 ag0 cd0 cg0 a1 b1 a2 b2 c2 a3 W w0 w1 w2 w3).mono fun e W' ⟨he, bel⟩ => ?_
  subst he
  exact ⟨_, rfl, _, _, _, [], _, [], hW', trodAll_mk1 (shut_bool Tryz.underlying4 _), (trodAll_cons_mk (Below.trod laidOut2 (by kernel_rfl) (of_decide_eq_true (by kernel_rfl)) k0 bel lt0) (trodAll_cons_mk (Below.trod laidOut2 (by kernel_rfl) (of_decide_eq_true (by kernel_rfl)) k1 bel lt1) (trodAll_cons_mk (Below.trod laidOut2 (by kernel_rfl) (of_decide_eq_true (by kernel_rfl)) k2 bel lt2) (trodAll_cons_mk (shut_int Tryz.underlying3 w3) trodAll_mk0)))), rfl, bel.frame _, fun h => by cases h⟩

theorem over : Rows.opChecksRow.holds Tryz.pinned (OpenSpec.ofChange Rows.opChecksSpec) :=
  OpenClaim.holds_of_wide 3 Tryz.f3 rfl rfl rfl rfl rfl rfl rfl ⟨rfl, rfl, rfl, rfl, rfl⟩ rfl rfl rfl rfl rfl (by kernel_rfl) Tryz.func3 (by kernel_rfl)
    (of_decide_eq_true (by kernel_rfl)) (by unfold Func.isWrapper; first | (rw [if_pos (by decide +kernel)]; kernel_rfl) | (rw [if_neg (by decide +kernel)]; exact ⟨rfl, rfl⟩))
    (fun os started H enc _ => lifted os started H enc)

end LOpChecks

theorem opChecks_holds : Rows.OpChecksSaid := LOpChecks.over

end Go.Proofs.YtfkdpkckbmbmdaaGreat
