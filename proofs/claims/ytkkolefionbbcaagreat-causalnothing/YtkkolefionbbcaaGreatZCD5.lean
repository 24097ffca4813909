/-
  The law's does: a step on both queues.
-/
import Derived.Test.YtkkolefionbbcaaGreatZXCD3
import Derived.Deep.CutRange
set_option linter.unusedSimpArgs false
set_option linter.unusedVariables false
namespace Go.Proofs.YtkkolefionbbcaaGreat
open Go.RowKit Go.Lib

def zeroO : Opn := ⟨0, 0, [], 0, 0, 0, 0, 0, ⟨#[]⟩, [], 0⟩
/-- the first that is ready, or none -/
def hdO (rd : List Opn) : Opn := rd.headD zeroO
def isO (rd : List Opn) : Bool := !rd.isEmpty
variable {w W W' : World} {b r : Nat} {hold : Int} {hv hu : List (Int × Int)} {S : Nat → Prop} {ws rd us ud : List Opn}
theorem TkP.zero (W : World) : TkP S S W (zeroO, .slice none 0 0, .slice none 0 0) :=
  ⟨⟨World.ownsRow_nil _ _ _ _, World.ownsRow_nil _ _ _ _, fun k hk => (by cases hk), fun k hk => (by cases hk), by decide, by decide, by decide, by constructor <;> first | (unfold in64; simp [zeroO]; done) | (simp [zeroO]; done) | decide | (intro e he; cases he)⟩, fun i hi => (by rcases hi with hi | hi <;> cases hi)⟩
theorem DJ.takePA (h : DJ w S b r hold hv ws rd hu us ud W) (hl : rd.length ≤ 1000) : Calls Tryz.prog 16 #[.pointer (some ⟨b, 0, none⟩)] W fun e W' => ∃ ad cd ag cg S', e = .returned (.tuple #[opA (hdO rd) (.slice ad (hdO rd).deps.length cd) (.slice ag (hdO rd).gone.length cg), .bool (isO rd)]) ∧ DJ w S' b r hold hv ws rd.tail hu us ud W' ∧ (∀ i, S' i → S i) ∧ TkP S S' W' (hdO rd, .slice ad (hdO rd).deps.length cd, .slice ag (hdO rd).gone.length cg) ∧ Kp S W W' := by
  cases rd with
  | nil =>
    refine h.takePN.mono ?_
    rintro e W' ⟨rfl, hb⟩
    exact ⟨none, 0, none, 0, S, rfl, h.below hb, fun i hi => hi, TkP.zero W', Kp.of_below hb⟩
  | cons o rd => exact h.takeP (by simp at hl; omega)
theorem DJ.takeDA (h : DJ w S b r hold hv ws rd hu us ud W) (hl : ud.length ≤ 1000) : Calls Tryz.prog 39 #[.pointer (some ⟨r, 0, none⟩)] W fun e W' => ∃ ad cd ag cg, e = .returned (.tuple #[opA (hdO ud) (.slice ad (hdO ud).deps.length cd) (.slice ag (hdO ud).gone.length cg), .bool (isO ud)]) ∧ DN w S b r hold hv ws rd hu us ud.tail W W' ∧ RI w (.slice ad (hdO ud).deps.length cd) (hdO ud).deps ∧ RR w (.slice ag (hdO ud).gone.length cg) (hdO ud).gone := by
  cases ud with
  | nil =>
    refine h.takeDN.mono ?_
    rintro e W' ⟨rfl, hb⟩
    exact ⟨none, 0, none, 0, rfl, h.dn.below hb, RC.nil _ _ _, RC.nil _ _ _⟩
  | cons o ud => exact h.takeD (by simp at hl; omega)
theorem Tw.kp {N : Nat → Prop} {B : Nat} {deps : List (Int × Int)} {gone : List ((Int × Int) × Int)} {gd cd gg cg : Nat} (h : Tw W B deps gone gd cd gg cg) (k : Kp N W W') (h1 : ¬ N gd) (h2 : ¬ N gg) : Tw W' B deps gone gd cd gg cg :=
  ⟨owns_kp h.d k (fun i hi e => by cases hi; exact h1 e), owns_kp h.g k (fun i hi e => by cases hi; exact h2 e)⟩
theorem DN.from {X : World} (hb : Below W.heap.size W X) (h : DN w S b r hold hv ws rd hu us ud X W') : DN w S b r hold hv ws rd hu us ud W W' := by
  obtain ⟨S', j, hs, k⟩ := h
  have := hb.size
  exact ⟨S', j, fun i hi => (hs i hi).imp id (fun e => by omega), (Kp.of_below (N := S) hb).trans k (fun i e => .inl e)⟩
/-- both took one, and what the program gave is written over -/
theorem DN.took {S2 S3 S4 N : Nat → Prop} {X0 X X1 V1 X2 X3 Y : World} (hs2 : ∀ i, S2 i → S i ∨ X0.heap.size ≤ i) (k2 : Kp S X0 X) (lo2 : ∀ i, S2 i → w.heap.size ≤ i) (hs3 : ∀ i, S3 i → S2 i) (k3 : Kp S2 X X1) (b1 : Below X1.heap.size X1 V1) (j4 : DJ w S4 b r hold hv ws rd hu us ud X2) (hs4 : ∀ i, S4 i → S3 i ∨ V1.heap.size ≤ i) (k4 : Kp S3 V1 X2) (b3 : Below X2.heap.size X2 X3) (kN : Kp N X3 Y) (hN : ∀ i, N i → S2 i ∧ ¬ S3 i ∧ i < X1.heap.size) : DN w S b r hold hv ws rd hu us ud X0 Y := by
  have z2 := k2.size
  have z3 := k3.size
  have z4 := b1.size
  refine ⟨S4, (j4.below b3).kp kN (fun i e => ⟨fun e' => ?_, lo2 i (hN i e).1⟩), fun i hi => ?_, ?_⟩
  · rcases hs4 i e' with q | q
    · exact (hN i e).2.1 q
    · have := (hN i e).2.2; omega
  · rcases hs4 i hi with q | q
    · exact hs2 i (hs3 i q)
    · exact .inr (by omega)
  · exact ((((k2.trans k3 hs2).trans (Kp.of_below (N := fun _ => False) b1) (fun i e => e.elim)).trans k4 (fun i e => hs2 i (hs3 i e))).trans (Kp.of_below (N := fun _ => False) b3) (fun i e => e.elim)).trans kN (fun i e => hs2 i (hN i e).1)
/-- what does leaves -/
def DoA (w : World) (S : Nat → Prop) (b r : Nat) (hold : Int) (n : Nat) (W : World) (e : Ending) (W' : World) : Prop := e = .returned (.bool true) ∧ ∃ hv' ws' rd', DI hold hv' ws' rd' n ∧ DN w S b r hold hv' ws' rd' hv' ws' rd' W W'
/-- behind the offer -/
def DoO (w : World) (S : Nat → Prop) (b r : Nat) (hold : Int) (n : Nat) (W W' : World) : Prop := ∃ hv' ws' rd', DI hold hv' ws' rd' n ∧ DN w S b r hold hv' ws' rd' hv' ws' rd' W W'
set_option maxRecDepth 100000 in
set_option maxHeartbeats 8000000 in
theorem does_in {n : Nat} (h : DJ w S b r hold hv ws rd hv ws rd W) (hi : DI hold hv ws rd n) (hn : n ≤ 900) (hd : 0 ≤ hold ∧ hold ≤ 256) (o : Opn) (ad ag : Option Addr) (L1 cd L2 cg : Nat) (nt : Bool) (tk : Int) (hL1 : o.deps.length = L1) (hL2 : o.gone.length = L2) (rdd : RI w (.slice ad L1 cd) o.deps) (rgg : RR w (.slice ag L2 cg) o.gone) (hin : InO o) (s1 : L1 ≤ 3000) (s2 : L2 ≤ 3000) (s3 : o.text.size ≤ 3000) :
    Calls Tryz.prog 14 #[.pointer (some ⟨b, 0, none⟩), .pointer (some ⟨r, 0, none⟩), .agg #[.int .i64 o.ds, .int .i64 o.dq, .slice ad L1 cd, .int .i64 o.kind, .int .i64 o.it, .int .i64 o.is, .int .i64 o.rt, .int .i64 o.rs, .string o.text, .slice ag L2 cg, .int .i64 o.site, .bool nt, .int .i64 tk]] W (DoA w S b r hold (n + 1) W) := by
  obtain ⟨X0, hX0⟩ : ∃ X0, W.alloc (.cells #[.int .i64 o.ds, .int .i64 o.dq, .slice ad L1 cd, .int .i64 o.kind, .int .i64 o.it, .int .i64 o.is, .int .i64 o.rt, .int .i64 o.rs, .string o.text, .slice ag L2 cg, .int .i64 o.site, .bool nt, .int .i64 tk] 44) = X0 := ⟨_, rfl⟩
  have b0 : Below W.heap.size W X0 := by rw [← hX0]; exact ballc (Below.refl _ _) _
  have B0 : Bx X0 W.heap.size 44 #[.int .i64 o.ds, .int .i64 o.dq, .slice ad L1 cd, .int .i64 o.kind, .int .i64 o.it, .int .i64 o.is, .int .i64 o.rt, .int .i64 o.rs, .string o.text, .slice ag L2 cg, .int .i64 o.site, .bool nt, .int .i64 tk] := by rw [← hX0]; exact Bx.new _ _ _
  have hx0 : X0.heap.size = W.heap.size + 1 := by rw [← hX0]; simp
  have hnS : ¬ S W.heap.size := fun e => by have := (h.lo _ e).2; omega
  have hlS : ∀ i, S i → i < W.heap.size := fun i e => (h.lo i e).2
  have HJ0 := hide (h.below b0)
  have HW0 := hide (bnext h.bel b0)
  have HB0 := hide B0
  have Hb0 := hide b0
  have HI := hide hi
  have HR := hide (And.intro rdd rgg)
  have Hsz := hide hx0
  have HL := hide (And.intro hL1 hL2)
  have HnS := hide hnS
  have HlS := hide hlS
  have HBk : Hid (∀ X, Kp S X0 X → Bx X W.heap.size 44 #[.int .i64 o.ds, .int .i64 o.dq, .slice ad L1 cd, .int .i64 o.kind, .int .i64 o.it, .int .i64 o.is, .int .i64 o.rt, .int .i64 o.rs, .string o.text, .slice ag L2 cg, .int .i64 o.site, .bool nt, .int .i64 tk]) := hide (fun X k => B0.kp k hnS)
  have p11 := B0.cell 11 _ rfl
  have p0 := B0.cell 0 _ rfl
  have p1 := B0.cell 1 _ rfl
  have p2 := B0.cell 2 _ rfl
  have p3 := B0.cell 3 _ rfl
  have p4 := B0.cell 4 _ rfl
  have p5 := B0.cell 5 _ rfl
  have p6 := B0.cell 6 _ rfl
  have p7 := B0.cell 7 _ rfl
  have p8 := B0.cell 8 _ rfl
  have p9 := B0.cell 9 _ rfl
  have p10 := B0.cell 10 _ rfl
  obtain ⟨bx, hbx⟩ : ∃ bx, W.heap.size = bx := ⟨_, rfl⟩
  have Hbx := hide hbx
  rw [hbx] at p0 p1 p2 p3 p4 p5 p6 p7 p8 p9 p10 p11 HBk HB0 HnS
  clear h hi rdd rgg b0 B0 hx0 hnS hlS hL1 hL2
  go_enter Tryz.func14, Tryz.ntmps14
  go_upto_if 21 with fail
  go_cut [] from 19 to 58 (fun wx => Hid (DoO w S b r hold (n + 1) X0 wx))
  case first =>
    cases nt with
    | true =>
      go_wp2
      go_meet
      case rel => exact hide ⟨hv, ws, rd, (unhide HI).more (by omega), (unhide HJ0).dn⟩
    | false =>
      obtain ⟨hL1, hL2⟩ := unhide HL
      have hR := unhide HR
      have HLe := hide (lent_in o ad ag cd cg X0 (by rw [hL1]; exact hR.1.below (unhide HW0)) (by rw [hL2]; exact RC.below hR.2 (unhide HW0)) (by omega) (by omega))
      rw [hL1, hL2] at HLe
      clear hL1 hL2 hR
      go_wp2_with fail
      refine (unhide HLe).mono ?_
      rintro e X1 ⟨gd, c1, gg, c2, rfl, htw, b1⟩
      obtain ⟨V, hV⟩ : ∃ V, X1.alloc (.cells #[.int .i64 o.ds, .int .i64 o.dq, .slice (some ⟨gd, 0, none⟩) L1 c1, .int .i64 o.kind, .int .i64 o.it, .int .i64 o.is, .int .i64 o.rt, .int .i64 o.rs, .string o.text, .slice (some ⟨gg, 0, none⟩) L2 c2, .int .i64 o.site] 42) = V := ⟨_, rfl⟩
      have bV : Below X1.heap.size X1 V := by rw [← hV]; exact ballc (Below.refl _ _) _
      have BV : Bx V X1.heap.size 42 #[.int .i64 o.ds, .int .i64 o.dq, .slice (some ⟨gd, 0, none⟩) L1 c1, .int .i64 o.kind, .int .i64 o.it, .int .i64 o.is, .int .i64 o.rt, .int .i64 o.rs, .string o.text, .slice (some ⟨gg, 0, none⟩) L2 c2, .int .i64 o.site] := by rw [← hV]; exact Bx.new _ _ _
      have jV := ((unhide HJ0).below b1).below bV
      have tV := htw.below bV
      have z0 := unhide Hsz
      have z1 := b1.size
      have zV := BV.lt
      have ngd := (htw.d.lt gd rfl)
      have ngg := (htw.g.lt gg rfl)
      obtain ⟨hL1, hL2⟩ := unhide HL
      have hi := unhide HI
      have hlen := hi.len
      have htot := hi.tot
      have r1 := tV.ri
      have r2 := tV.rr
      rw [hL1] at r1
      rw [hL2] at r2
      have HOf := hide (jV.offP hd o _ _ r1 r2 (by omega) (by omega) s3 hin (by omega))
      have HI1 := hide (hi.off o)
      obtain ⟨⟨⟨rr, er⟩, hv', ws', rd'⟩, hA⟩ : ∃ A, offA hold hv ws rd o = A := ⟨_, rfl⟩
      have HA := hide hA
      rw [hA] at HOf HI1
      simp only at HOf HI1
      unfold opA at HOf
      obtain ⟨v0, v1, v2, v3, v4, v5, v6, v7, v8, v9, v10⟩ := cells_op BV
      have HBV := hide BV
      have HtV := hide tV
      have HzV := hide (And.intro z0 (And.intro z1 (And.intro zV (And.intro ngd ngg))))
      have HbV := hide (bnext b1 bV)
      clear HLe htw b1 bV BV jV tV z0 z1 zV ngd ngg hL1 hL2 hi hlen htot r1 r2 hA
      go_wp2_with fail
      refine (unhide HOf).mono ?_
      rintro e X2 ⟨rfl, ⟨S2, j2, hs2, k2⟩⟩
      have B2 := ((unhide HBk V (Kp.of_below (unhide HbV)))).kp k2 (unhide HnS)
      have hi := unhide HI
      have hlen := hi.len
      have htot := hi.tot
      have hRR := unhide HR
      have HOd := hide (j2.offD hd o _ _ hRR.1 hRR.2 (by have := (unhide HL).1; omega) (by have := (unhide HL).2; omega) s3 hin (by omega) hi.dd)
      rw [unhide HA] at HOd
      simp only at HOd
      unfold opA at HOd
      have HS2 := hide (And.intro hs2 k2)
      have w0 := B2.cell 0 _ rfl
      have w1 := B2.cell 1 _ rfl
      have w2 := B2.cell 2 _ rfl
      have w3 := B2.cell 3 _ rfl
      have w4 := B2.cell 4 _ rfl
      have w5 := B2.cell 5 _ rfl
      have w6 := B2.cell 6 _ rfl
      have w7 := B2.cell 7 _ rfl
      have w8 := B2.cell 8 _ rfl
      have w9 := B2.cell 9 _ rfl
      have w10 := B2.cell 10 _ rfl
      have HB2 := hide B2
      have Hlo2 := hide (show ∀ i, S2 i → S i ∨ V.heap.size ≤ i from hs2)
      have BV2 := (unhide HBV).kp k2 (fun e => by have := unhide HlS _ e; have := unhide HzV; omega)
      have HBV2 := hide BV2
      have Ht2 := hide ((unhide HtV).kp k2 (fun e => by have := unhide HlS _ e; have := unhide HzV; omega) (fun e => by have := unhide HlS _ e; have := unhide HzV; omega))
      clear HOf j2 hs2 k2 B2 BV2 hi hlen htot hRR v0 v1 v2 v3 v4 v5 v6 v7 v8 v9 v10 p0 p1 p2 p3 p4 p5 p6 p7 p8 p9 p10 p11 hV hX0
      go_wp2_with fail
      refine (unhide HOd).mono ?_
      rintro e X3 ⟨rfl, ⟨S3, j3, hs3, k3⟩⟩
      have zz := unhide HzV
      have k2s := (unhide HS2).2.size
      have n2 : ∀ i, i < V.heap.size → ¬ S i → ¬ S2 i := fun i h1 h2 e => (unhide Hlo2 i e).elim h2 (fun q => by omega)
      have nS : ∀ i, W.heap.size ≤ i → ¬ S i := fun i h1 e => by have := unhide HlS _ e; omega
      have B3 := (unhide HB2).kp k3 (n2 _ (by have := unhide Hbx; omega) (unhide HnS))
      have BV3 := (unhide HBV2).kp k3 (n2 _ (by omega) (nS _ (by have := unhide Hbx; omega)))
      have ngd : ¬ S2 gd := n2 _ (by omega) (nS _ (by have := unhide Hbx; omega))
      have ngg : ¬ S2 gg := n2 _ (by omega) (nS _ (by have := unhide Hbx; omega))
      have t3 := (unhide Ht2).kp k3 ngd ngg
      have hRR := unhide HR
      have HBa := hide (back_in o ad ag cd cg X0.heap.size gd c1 gg c2 X3 t3 (by rw [(unhide HL).1]; exact hRR.1.below j3.bel) (by rw [(unhide HL).2]; exact RC.below hRR.2 j3.bel) (by have := (unhide HL).1; omega) (by have := (unhide HL).2; omega))
      rw [(unhide HL).1, (unhide HL).2] at HBa
      obtain ⟨v0, v1, v2, v3, v4, v5, v6, v7, v8, v9, v10⟩ := cells_op BV3
      have y0 := B3.cell 0 _ rfl
      have y1 := B3.cell 1 _ rfl
      have y2 := B3.cell 2 _ rfl
      have y3 := B3.cell 3 _ rfl
      have y4 := B3.cell 4 _ rfl
      have y5 := B3.cell 5 _ rfl
      have y6 := B3.cell 6 _ rfl
      have y7 := B3.cell 7 _ rfl
      have y8 := B3.cell 8 _ rfl
      have y9 := B3.cell 9 _ rfl
      have y10 := B3.cell 10 _ rfl
      have n3 : ∀ i, (i = gd ∨ i = gg) → ¬ S3 i ∧ w.heap.size ≤ i := fun i hi => ⟨fun e => (hs3 i e).elim (fun q => by rcases hi with rfl | rfl; exact ngd q; exact ngg q) (fun q => by have := k2s; omega), by have := (unhide HJ0).bel.size; omega⟩
      have HJ3 := hide (fun (Y : World) (kb : Kp (fun i => i = gd ∨ i = gg) X3 Y) => j3.kp kb n3)
      have HKS : Hid (∀ (Y : World), Kp (fun i => i = gd ∨ i = gg) X3 Y → Kp S X0 Y) := hide (fun Y kb => (((Kp.of_below (N := S) (unhide HbV)).trans (unhide HS2).2 (fun i e => .inl e)).trans k3 (fun i e => ((unhide HS2).1 i e).imp id (fun q => by omega))).trans kb (fun i e => .inr (by omega)))
      have Hs3 : Hid (∀ i, S3 i → S i ∨ X0.heap.size ≤ i) := hide (fun i e => (hs3 i e).elim (fun q => ((unhide HS2).1 i q).imp id (fun q => by omega)) (fun q => .inr (by have := k2s; omega)))
      have HI1l := (unhide HI1).len
      have HI1c := (unhide HI1).ck
      have hrr : (rr != rr) = false := by simp
      have her : (er != er) = false := by simp
      clear HOd j3 hs3 k3 zz k2s n2 nS B3 BV3 ngd ngg t3 hRR n3 w0 w1 w2 w3 w4 w5 w6 w7 w8 w9 w10
      go_wp2_with fail
      refine (unhide HBa).mono ?_
      rintro e X4 ⟨rfl, kb⟩
      have j4 := unhide HJ3 X4 kb
      have HAl := hide (alike_in j4 hd (by omega) HI1c)
      have HD4 : Hid (DN w S b r hold hv' ws' rd' hv' ws' rd' X0 X4) := hide ⟨S3, j4, unhide Hs3, unhide HKS X4 kb⟩
      clear HBa kb j4 HJ3 HKS Hs3 HI1l HI1c y0 y1 y2 y3 y4 y5 y6 y7 y8 y9 y10 v0 v1 v2 v3 v4 v5 v6 v7 v8 v9 v10
      go_wp2_with fail
      refine (unhide HAl).mono ?_
      rintro e X5 ⟨rfl, b5⟩
      have HD5 := hide ((unhide HD4).below b5)
      clear HAl b5 HD4
      go_wp2
      go_meet
      case rel => exact hide ⟨hv', ws', rd', unhide HI1, unhide HD5⟩
  obtain ⟨hv, ws, rd, hi, hdn⟩ := unhide hcut
  have HI := hide hi
  have HD := hide hdn
  clear p0 p1 p2 p3 p4 p5 p6 p7 p8 p9 p10 p11 hcut hi hdn HJ0 hX0 hbx
  go_wp2
  go_loopw [12] (fun iv wq => ∃ (i : Nat) (rk : List Opn), iv = .int .i64 (i : Nat) ∧ i ≤ 400 ∧ Hid (DI hold hv ws rk (n + 1)) ∧ Hid (DN w S b r hold hv ws rk hv ws rk X0 wq)) (fun iv _ => 400 - (RowKit.intOf iv).toNat)
  case atStart => exact ⟨0, rd, rfl, by omega, HI, HD⟩
  case round =>
    clear HI HD
    obtain ⟨i, rk, rfl, hik, HI, HD⟩ := hrel
    obtain ⟨X, rfl⟩ : ∃ X, X = wr := ⟨_, rfl⟩
    obtain ⟨S2, j2, hs2, k2⟩ := unhide HD
    have c12 : X.cell? ⟨bx, 12, none⟩ = some (.int .i64 tk) := (unhide HBk X k2).cell 12 _ rfl
    have htot := (unhide HI).tot
    have hlen := (unhide HI).len
    have hckk := (unhide HI).ck
    have HAl := hide (alike_in j2 hd (by omega) hckk)
    by_cases hA : (i : Int) < tk
    rotate_left
    · clear htot hlen hckk j2 hs2 k2
      go_wp2_with fail
      refine (unhide HAl).mono ?_
      rintro e Y ⟨rfl, bY⟩
      have HDY := hide ((unhide HD).below bY)
      clear HAl bY
      go_wp2
      go_ret
      exact ⟨rfl, hv, ws, rk, unhide HI, DN.from (unhide Hb0) (unhide HDY)⟩
    by_cases hB : i < 400
    rotate_left
    · have hB' : ¬ (i : Int) < 400 := by omega
      clear htot hlen hckk j2 hs2 k2
      go_wp2_with fail
      refine (unhide HAl).mono ?_
      rintro e Y ⟨rfl, bY⟩
      have HDY := hide ((unhide HD).below bY)
      clear HAl bY
      go_wp2
      go_ret
      exact ⟨rfl, hv, ws, rk, unhide HI, DN.from (unhide Hb0) (unhide HDY)⟩
    have hB' : (i : Int) < 400 := by omega
    have HT := hide (j2.takePA (by omega))
    have HJ2 := hide (And.intro j2 (And.intro hs2 k2))
    have htl : rk.tail.length ≤ rk.length := by rw [List.length_tail]; omega
    have HI2 : Hid (DI hold hv ws rk.tail (n + 1)) := hide (by
      cases rk with
      | nil => exact unhide HI
      | cons y rk => exact (unhide HI).take)
    have Htt := hide htot
    have HTD := hide (fun (S3 : Nat → Prop) (Y : World) (j3 : DJ w S3 b r hold hv ws rk.tail hv ws rk Y) => j3.takeDA (by omega))
    obtain ⟨o2, ho2⟩ : ∃ o2, hdO rk = o2 := ⟨_, rfl⟩
    obtain ⟨is, his⟩ : ∃ is, isO rk = is := ⟨_, rfl⟩
    rw [ho2, his] at HT HTD
    have Hrk : Hid (is = false → rk = rk.tail) := hide (fun e => by
      rw [← his] at e
      cases rk with
      | nil => rfl
      | cons y rk => simp [isO] at e)
    obtain ⟨M1, hM1⟩ : ∃ M1, o2.deps.length = M1 := ⟨_, rfl⟩
    obtain ⟨M2, hM2⟩ : ∃ M2, o2.gone.length = M2 := ⟨_, rfl⟩
    have HM := hide (And.intro hM1 hM2)
    rw [hM1, hM2] at HT HTD
    unfold opA at HT HTD
    clear j2 hs2 k2 HAl htot hlen htl ho2 his hM1 hM2 HD
    go_wp2_with fail
    refine (unhide HT).mono ?_
    rintro e X1 ⟨ae, ce, af, cf, S3, rfl, j3, hs3, tp, k3⟩
    obtain ⟨V1, hV1⟩ : ∃ V1, X1.alloc (.cells #[.int .i64 o2.ds, .int .i64 o2.dq, .slice ae M1 ce, .int .i64 o2.kind, .int .i64 o2.it, .int .i64 o2.is, .int .i64 o2.rt, .int .i64 o2.rs, .string o2.text, .slice af M2 cf, .int .i64 o2.site] 42) = V1 := ⟨_, rfl⟩
    have bV1 : Below X1.heap.size X1 V1 := by rw [← hV1]; exact ballc (Below.refl _ _) _
    have BV1 : Bx V1 X1.heap.size 42 #[.int .i64 o2.ds, .int .i64 o2.dq, .slice ae M1 ce, .int .i64 o2.kind, .int .i64 o2.it, .int .i64 o2.is, .int .i64 o2.rt, .int .i64 o2.rs, .string o2.text, .slice af M2 cf, .int .i64 o2.site] := by rw [← hV1]; exact Bx.new _ _ _
    have HTd := hide (unhide HTD S3 V1 (j3.below bV1))
    have H3 := hide (And.intro hs3 (And.intro k3 bV1))
    have Htp := hide tp
    have HBV1 := hide BV1
    have hsV1 : X1.heap.size < V1.heap.size := BV1.lt
    have HsV1 := hide hsV1
    have Hlo3 := hide (show ∀ i, S3 i → i < X1.heap.size from fun i e => (j3.lo i e).2)
    have HB3 := hide (bnext j3.bel bV1)
    clear HT HTD c12 j3 hs3 tp k3 bV1 BV1 hsV1
    go_wp2_with fail
    refine (unhide HTd).mono ?_
    rintro e X2 ⟨ae', ce', af', cf', rfl, ⟨S4, j4, hs4, k4⟩, rd', rg'⟩
    obtain ⟨V2, hV2⟩ : ∃ V2, X2.alloc (.cells #[.int .i64 o2.ds, .int .i64 o2.dq, .slice ae' M1 ce', .int .i64 o2.kind, .int .i64 o2.it, .int .i64 o2.is, .int .i64 o2.rt, .int .i64 o2.rs, .string o2.text, .slice af' M2 cf', .int .i64 o2.site] 42) = V2 := ⟨_, rfl⟩
    have bV2 : Below X2.heap.size X2 V2 := by rw [← hV2]; exact ballc (Below.refl _ _) _
    have BV2 : Bx V2 X2.heap.size 42 #[.int .i64 o2.ds, .int .i64 o2.dq, .slice ae' M1 ce', .int .i64 o2.kind, .int .i64 o2.it, .int .i64 o2.is, .int .i64 o2.rt, .int .i64 o2.rs, .string o2.text, .slice af' M2 cf', .int .i64 o2.site] := by rw [← hV2]; exact Bx.new _ _ _
    have hns : ¬ S3 X1.heap.size := fun e => by have := unhide Hlo3 _ e; omega
    have BA2 := ((unhide HBV1).kp k4 hns).below bV2
    have hoe := (unhide Htp).oe
    have oD : OwD V2 0 (.slice ae M1 ce) o2.deps := by
      have q := owns_kp (N := fun _ => False) hoe.d (Kp.of_below (unhide H3).2.2) (fun _ _ e => e)
      exact owns_kp (N := fun _ => False) (owns_kp q k4 (fun i hi e => (unhide Htp).ap i (.inl hi) e)) (Kp.of_below bV2) (fun _ _ e => e)
    have oG : OwR V2 0 (.slice af M2 cf) o2.gone := by
      have q := owns_kp (N := fun _ => False) hoe.g (Kp.of_below (unhide H3).2.2) (fun _ _ e => e)
      exact owns_kp (N := fun _ => False) (owns_kp q k4 (fun i hi e => (unhide Htp).ap i (.inr hi) e)) (Kp.of_below bV2) (fun _ _ e => e)
    have hw2 := bnext j4.bel bV2
    have q1 := hoe.s1
    have q2 := hoe.s2
    simp only at q1 q2
    have HSm := hide (lsame_in o2 (.slice ae M1 ce) (.slice af M2 cf) (.slice ae' M1 ce') (.slice af' M2 cf') V2 (OwD.row oD) (RC.of_owns oG) (rd'.below hw2) (RC.below rg' hw2) q1 q2)
    unfold opA at HSm
    have hM := unhide HM
    have hM1b : M1 ≤ 1000000 := by have := hM.1; omega
    have hM2b : M2 ≤ 1000000 := by have := hM.2; omega
    have HXD : Hid (OwX V2 28 2 (.slice ae M1 ce) M1) := hide (by have := OwX.of oD; rw [hM.1] at this; exact this)
    have HXG : Hid (OwX V2 72 3 (.slice af M2 cf) M2) := hide (by have := OwX.of oG; rw [hM.2] at this; exact this)
    have HND : Hid (∀ i, ((Value.slice ae M1 ce).ownBlock = some i ∨ (Value.slice af M2 cf).ownBlock = some i) → S2 i ∧ ¬ S3 i ∧ i < X1.heap.size) := hide (fun i hi => ⟨hi.elim (fun e => hoe.pd i e) (fun e => hoe.pg i e), (unhide Htp).ap i hi, hi.elim (fun e => (hoe.d.lt i e).2) (fun e => (hoe.g.lt i e).2)⟩)
    have H4 := hide (And.intro j4 (And.intro hs4 (And.intro k4 bV2)))
    have HBA2 := hide BA2
    obtain ⟨a0, a1, a2, a3, a4, a5, a6, a7, a8, a9, a10⟩ := cells_op BA2
    obtain ⟨b0, b1, b2, b3, b4, b5, b6, b7, b8, b9, b10⟩ := cells_op BV2
    have ha1 := BA2.lt
    have hb1 := BV2.lt
    have hll := (unhide HsV1)
    have hk4 := k4.size
    clear HTd j4 hs4 k4 rd' rg' bV2 BV2 hns BA2 hoe oD oG hw2 q1 q2 hM Htp HBV1 hV1
    go_wp2_with fail
    refine (unhide HSm).mono ?_
    rintro e X3 ⟨rfl, b5'⟩
    have HB5 := hide b5'
    have HXD3 := hide ((unhide HXD).ss (SS.below b5'))
    have HXG3 := hide ((unhide HXG).ss (SS.below b5'))
    have HBA3 := hide ((unhide HBA2).below b5')
    have G1 : Hid (Kp (fun i => (Value.slice ae M1 ce).ownBlock = some i ∨ (Value.slice af M2 cf).ownBlock = some i) X3 X3 ∧ SS X3 X3) := hide ⟨Kp.refl _ _, SS.refl _⟩
    have hneq : ¬ ((Value.slice ae M1 ce).ownBlock = some X1.heap.size ∨ (Value.slice af M2 cf).ownBlock = some X1.heap.size) := fun e => by have := (unhide HND _ e).2.2; omega
    have Hneq := hide hneq
    clear HSm b5' HXD HXG HBA2 hneq a0 a1 a2 a3 a4 a5 a6 a7 a8 a9 a10 b0 b1 b2 b3 b4 b5 b6 b7 b8 b9 b10 hV2 ha1 hb1 hll hk4
    have hbne : (is != is) = false := by simp
    have HA3 := hide (((unhide HBA3).cell 2 _ rfl))
    go_wp2
    go_loopw [17] (fun kv wq => ∃ k : Nat, kv = .int .i64 (k : Nat) ∧ k ≤ M1 ∧ Hid (Kp (fun i => (Value.slice ae M1 ce).ownBlock = some i ∨ (Value.slice af M2 cf).ownBlock = some i) X3 wq ∧ SS X3 wq)) (fun kv _ => M1 - (RowKit.intOf kv).toNat)
    case atStart => exact ⟨0, rfl, by omega, G1⟩
    case round =>
      clear G1
      obtain ⟨k, rfl, hk, G1⟩ := hrel
      have c2 := ((unhide HBA3).kp (unhide G1).1 (unhide Hneq)).cell 2 _ rfl
      by_cases hlt : k < M1
      · have hlt' : (k : Int) < (M1 : Int) := by omega
        obtain ⟨g, rfl, l0, fz, cc, _⟩ := ((unhide HXD3).ss (unhide G1).2).at (by omega)
        obtain ⟨y0, d0⟩ := cc (k * 2) (by omega)
        obtain ⟨y1, d1⟩ := cc (k * 2 + 1) (by omega)
        have f0 := fz (k * 2)
        have f1 := fz (k * 2 + 1)
        have G2 : Hid (Kp (fun i => (Value.slice (some ⟨g, 0, none⟩) M1 ce).ownBlock = some i ∨ (Value.slice af M2 cf).ownBlock = some i) X3 ((wr.setCell ⟨g, k * 2, none⟩ (.int .i64 906)).setCell ⟨g, k * 2 + 1, none⟩ (.int .i64 0)) ∧ SS X3 ((wr.setCell ⟨g, k * 2, none⟩ (.int .i64 906)).setCell ⟨g, k * 2 + 1, none⟩ (.int .i64 0))) :=
          hide ⟨((unhide G1).1.trans (Kp.set (N := fun k => k = g) _ _ _ rfl) (fun i e => .inl (.inl (by rw [e]; rfl)))).trans (Kp.set (N := fun k => k = g) _ _ _ rfl) (fun i e => .inl (.inl (by rw [e]; rfl))), ((unhide G1).2.trans (SS.set _ _ _ _)).trans (SS.set _ _ _ _)⟩
        clear G1 fz cc
        go_wp2
        go_roundw
        case rel => exact ⟨k + 1, by go_num, by omega, G2⟩
        case measure => simp [RowKit.intOf]; omega
      · have hlt' : ¬ (k : Int) < (M1 : Int) := by omega
        go_wp2
        clear hlt' hlt hk c2
        go_loopw [18] (fun kv wq => ∃ k : Nat, kv = .int .i64 (k : Nat) ∧ k ≤ M2 ∧ Hid (Kp (fun i => (Value.slice ae M1 ce).ownBlock = some i ∨ (Value.slice af M2 cf).ownBlock = some i) X3 wq ∧ SS X3 wq)) (fun kv _ => M2 - (RowKit.intOf kv).toNat)
        case atStart => exact ⟨0, rfl, by omega, G1⟩
        case round =>
          clear G1
          obtain ⟨k, rfl, hk, G1⟩ := hrel
          have c9 := ((unhide HBA3).kp (unhide G1).1 (unhide Hneq)).cell 9 _ rfl
          by_cases hlt : k < M2
          · have hlt' : (k : Int) < (M2 : Int) := by omega
            obtain ⟨g, rfl, l0, fz, cc, _⟩ := ((unhide HXG3).ss (unhide G1).2).at (by omega)
            obtain ⟨y0, d0⟩ := cc (k * 3) (by omega)
            obtain ⟨y1, d1⟩ := cc (k * 3 + 1) (by omega)
            obtain ⟨y2, d2⟩ := cc (k * 3 + 2) (by omega)
            have f0 := fz (k * 3)
            have f1 := fz (k * 3 + 1)
            have f2 := fz (k * 3 + 2)
            have G2 : Hid (Kp (fun i => (Value.slice ae M1 ce).ownBlock = some i ∨ (Value.slice (some ⟨g, 0, none⟩) M2 cf).ownBlock = some i) X3 (((wr.setCell ⟨g, k * 3, none⟩ (.int .i64 0)).setCell ⟨g, k * 3 + 1, none⟩ (.int .i64 0)).setCell ⟨g, k * 3 + 2, none⟩ (.int .i64 907)) ∧ SS X3 (((wr.setCell ⟨g, k * 3, none⟩ (.int .i64 0)).setCell ⟨g, k * 3 + 1, none⟩ (.int .i64 0)).setCell ⟨g, k * 3 + 2, none⟩ (.int .i64 907))) :=
              hide ⟨(((unhide G1).1.trans (Kp.set (N := fun k => k = g) _ _ _ rfl) (fun i e => .inl (.inr (by rw [e]; rfl)))).trans (Kp.set (N := fun k => k = g) _ _ _ rfl) (fun i e => .inl (.inr (by rw [e]; rfl)))).trans (Kp.set (N := fun k => k = g) _ _ _ rfl) (fun i e => .inl (.inr (by rw [e]; rfl))), (((unhide G1).2.trans (SS.set _ _ _ _)).trans (SS.set _ _ _ _)).trans (SS.set _ _ _ _)⟩
            clear G1 fz cc
            go_wp2
            go_roundw
            case rel => exact ⟨k + 1, by go_num, by omega, G2⟩
            case measure => simp [RowKit.intOf]; omega
          · have hlt' : ¬ (k : Int) < (M2 : Int) := by omega
            have HD : Hid (DN w S b r hold hv ws rk.tail hv ws rk.tail X0 wr) := hide (DN.took (unhide HJ2).2.1 (unhide HJ2).2.2 (fun i e => ((unhide HJ2).1.lo i e).1) (unhide H3).1 (unhide H3).2.1 (unhide H3).2.2 (unhide H4).1 (unhide H4).2.1 (unhide H4).2.2.1 (bnext (unhide H4).2.2.2 (unhide HB5)) (unhide G1).1 (unhide HND))
            cases is with
            | true =>
              go_wp2
              go_roundw
              case rel => exact ⟨i + 1, rk.tail, by go_num, by omega, HI2, HD⟩
              case measure => show 400 - ((i : Int) + 1).toNat < 400 - ((i : Nat) : Int).toNat; omega
            | false =>
              have HI := HI2
              have hlen := (unhide HI).len
              have HAl : Hid (Calls Tryz.prog 38 #[.pointer (some ⟨b, 0, none⟩), .pointer (some ⟨r, 0, none⟩)] wr fun e W' => e = .returned (.bool true) ∧ Below wr.heap.size wr W') := hide (by
                obtain ⟨S5, j5, _, _⟩ := unhide HD
                exact alike_in j5 hd (by omega) (unhide HI).ck)
              clear hlen
              go_wp2_with fail
              refine (unhide HAl).mono ?_
              rintro e Y ⟨rfl, bY⟩
              have HDY := hide ((unhide HD).below bY)
              clear HAl bY
              go_wp2
              go_ret
              exact ⟨rfl, hv, ws, rk.tail, unhide HI, DN.from (unhide Hb0) (unhide HDY)⟩

end Go.Proofs.YtkkolefionbbcaaGreat
