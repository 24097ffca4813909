/-
  The law's step, by its kinds.
-/
import Derived.Test.YteomalmflebkhaaZSB
set_option linter.unusedSimpArgs false
set_option linter.unusedVariables false
namespace Go.Proofs.Yteomalmflebkhaa
open Go.RowKit Go.Lib

variable {S0 T0 : Nat → Prop} {W : World} {b r : Nat} {s : Stn}
set_option maxRecDepth 100000 in
set_option maxHeartbeats 8000000 in
theorem step_1 (h1 : NL S0 W b s) (h2 : HL T0 W r s) (hS : ∀ i, S0 i → i < W.heap.size ∧ ¬ T0 i) (hT : ∀ i, T0 i → i < W.heap.size) (x : Stp) (hx : StW W x) (hxl : x.dat.length ≤ 60000) (hfx : x.dat ≠ [] → ∀ i, x.vd.ownBlock = some i → ¬ S0 i ∧ ¬ T0 i) (hk : x.kind = 1) : Calls Try.prog 13 #[.pointer (some ⟨b, 0, none⟩), .pointer (some ⟨r, 0, none⟩), .agg (stC x)] W (StA S0 T0 W b r (doS s x)) := by
  rw [show doS s x = sndS s x.frm x.to x.dat x.at_ by unfold doS; rw [if_pos hk]]
  have q1 : (x.kind == 1) = true := by simpa using hk
  clear hk
  obtain ⟨X0, a1, k1, X1, X2, g, kb, X3, hX0, bx0, r1, hX2, r2, hKE, hSP⟩ := step_rows h1 h2 hS hT hx hxl hfx
  have K3 := hide (show SK S0 T0 W x b r g kb s s X3 from ⟨_, hSP, hKE⟩)
  obtain ⟨ad, cd, ev⟩ := hx.fd
  obtain ⟨M, hM⟩ : ∃ M, x.dat.length = M := ⟨_, rfl⟩
  obtain ⟨M1, hM1⟩ : ∃ M1, M + 1 = M1 := ⟨_, rfl⟩
  have hcap := hKE.cap
  have hnum := hx.num
  obtain ⟨z0, z1, z2, z3, z4, z5⟩ := (unhide K3).y
  have y5 := bx0.cell 5 x.vd rfl
  clear h1 h2 hS hT hx hfx hKE hSP bx0
  have Q1 := hide ((unhide K3).one (fun S hn hlt => Send_in hn hlt x.frm x.to x.at_ _ x.dat (unhide K3).gv (by omega)))
  have Q2 := hide (fun X (K : SK S0 T0 W x b r g kb (sndS s x.frm x.to x.dat x.at_) s X) => K.two (fun T hl hf => by obtain ⟨v, L, hm⟩ := hl; have rd := K.rd; rw [ev] at rd hf; exact rSend_in hm x.frm x.to x.at_ ad cd x.dat rd (fun hd i hi e => e.elim (fun e => by subst e; exact hf hd _ hi hm.p0) (fun e => hf hd i hi (hm.pv i e))) (by omega)))
  have HY := hide (fun s2 X (K : SK S0 T0 W x b r g kb s2 s X) => K.y)
  obtain ⟨s2, hs2⟩ : ∃ s2, sndS s x.frm x.to x.dat x.at_ = s2 := ⟨_, rfl⟩
  unfold two at Q1 Q2
  rw [hs2] at Q1 Q2 ⊢
  obtain ⟨N, hN⟩ : ∃ N, sndN s x.frm x.to x.at_ = N := ⟨_, rfl⟩
  obtain ⟨C, hC⟩ : ∃ C, sndE s x.frm x.to x.at_ = C := ⟨_, rfl⟩
  rw [hN, hC] at Q1 Q2
  clear hs2 hN hC
  rw [hM] at Q1
  try rw [hM] at Q2
  rw [hM] at ev
  have HVd := hide (And.intro ev (And.intro hM hM1))
  unfold stC at hX0
  unfold stC
  rw [ev] at hX0 y5 z5 r1 ⊢
  rw [hM] at r1 r2 hcap hxl
  rw [hM1] at r2 hcap
  have HR1 := hide r1
  have HR2 := hide r2
  have hM2 : M ≤ M1 := by omega
  have hM3 : M ≤ kb := by omega
  have hM4 : M1 ≤ 60001 := by omega
  clear r1 r2 ev hM
  replace hM1 := hide hM1
  go_enter Try.func13, Try.ntmps13
  go_wp2_with (first | (at_builtin; refine wpList_append_eq rfl _ _ 30 30 rfl _ _ _ _ rfl rfl (unhide HR1) ?_) | (at_builtin; refine wpList_append_eq rfl _ _ 30 30 rfl _ _ _ _ rfl rfl (unhide HR2) ?_))
  go_wp2_with fail
  refine (unhide Q1).mono ?_
  rintro e X4 ⟨rfl, K4⟩
  obtain ⟨w0, w1, w2, w3, w4, w5⟩ := unhide HY _ _ K4
  rw [(unhide HVd).1] at w5
  replace K4 := hide K4
  clear Q1 K3 z0 z1 z2 z3 z4 z5
  go_wp2_with fail
  refine (unhide Q2 _ (unhide K4)).mono ?_
  rintro e X6 ⟨rfl, K6⟩
  replace K6 := hide K6
  clear Q2 K4 w0 w1 w2 w3 w4 w5 HY
  have HTl := hide ((unhide K6).tail (unhide HVd).1 (unhide HVd).2.1 (unhide HVd).2.2 hxl)
  have w5 := (unhide HTl).1
  have HBy := hide (unhide HTl).2
  clear HTl K6
  go_wp2_with fail
  refine (unhide HBy).mono ?_
  rintro e X5 ⟨rfl, v5, v6, D0, hD0, hP0⟩
  have J0 : Hid (∃ D, D.length = M1 ∧ SPb S0 T0 W b r g kb M s2 D X5) := hide ⟨D0, hD0, hP0⟩
  have hi171 : M < M1 := by have := (unhide HVd).2.2; omega
  clear HBy w5 hD0 hP0
  go_wp2
  clear v5 v6
  go_loopw [28] (fun iv wr => ∃ i : Nat, i ≤ M1 ∧ iv = .int .i64 (i : Nat) ∧ Hid (∃ D, D.length = M1 ∧ SPb S0 T0 W b r g kb M s2 D wr)) (fun iv _ => M1 - (RowKit.intOf iv).toNat)
  case atStart => exact ⟨0, Nat.zero_le _, rfl, J0⟩
  case round =>
    obtain ⟨i, hi, rfl, HI⟩ := hrel
    clear J0
    obtain ⟨D, hDl, hPb⟩ := unhide HI
    by_cases hlt : i < M1
    · have hlt' : (i : Int) < (M1 : Int) := by omega
      obtain ⟨⟨u1, c1⟩, f1, hz⟩ := hPb.set (by rw [hDl]; exact (unhide HVd).2.2.symm) (j := i) (by have := (unhide HVd).2.2; omega)
      have FIN : Hid (∃ D, D.length = M1 ∧ SPb S0 T0 W b r g kb M s2 D (wr.setCell ⟨g, i, none⟩ (.int .u8 90))) := hide ⟨_, by rw [List.length_set]; exact hDl, hz 90⟩
      clear hPb hz HI hDl
      go_wp2
      go_roundw
      case rel => exact ⟨i + 1, by omega, by go_num, FIN⟩
      case measure => show M1 - ((i : Int) + 1).toNat < M1 - ((i : Nat) : Int).toNat; omega
    · obtain rfl : i = M1 := by omega
      have hlt' : ¬ (i : Int) < (i : Int) := by omega
      have FIN := hide hPb.fin
      clear hPb HI hDl
      go_wp2
      go_ret
      exact unhide FIN
set_option maxRecDepth 100000 in
set_option maxHeartbeats 8000000 in
theorem step_4 (h1 : NL S0 W b s) (h2 : HL T0 W r s) (hS : ∀ i, S0 i → i < W.heap.size ∧ ¬ T0 i) (hT : ∀ i, T0 i → i < W.heap.size) (x : Stp) (hx : StW W x) (hxl : x.dat.length ≤ 60000) (hfx : x.dat ≠ [] → ∀ i, x.vd.ownBlock = some i → ¬ S0 i ∧ ¬ T0 i) (hk : x.kind = 4) : Calls Try.prog 13 #[.pointer (some ⟨b, 0, none⟩), .pointer (some ⟨r, 0, none⟩), .agg (stC x)] W (StA S0 T0 W b r (doS s x)) := by
  rw [show doS s x = dblS s x.num by unfold doS; rw [if_neg (by omega), if_neg (by omega), if_neg (by omega), if_pos hk]]
  have q1 : (x.kind == 1) = false := by rw [hk]; rfl
  have q2 : (x.kind == 2) = false := by rw [hk]; rfl
  have q3 : (x.kind == 3) = false := by rw [hk]; rfl
  have q4 : (x.kind == 4) = true := by simpa using hk
  clear hk
  obtain ⟨X0, a1, k1, X1, X2, g, kb, X3, hX0, bx0, r1, hX2, r2, hKE, hSP⟩ := step_rows h1 h2 hS hT hx hxl hfx
  have K3 := hide (show SK S0 T0 W x b r g kb s s X3 from ⟨_, hSP, hKE⟩)
  obtain ⟨ad, cd, ev⟩ := hx.fd
  obtain ⟨M, hM⟩ : ∃ M, x.dat.length = M := ⟨_, rfl⟩
  obtain ⟨M1, hM1⟩ : ∃ M1, M + 1 = M1 := ⟨_, rfl⟩
  have hcap := hKE.cap
  have hnum := hx.num
  obtain ⟨z0, z1, z2, z3, z4, z5⟩ := (unhide K3).y
  have y5 := bx0.cell 5 x.vd rfl
  clear h1 h2 hS hT hx hfx hKE hSP bx0
  have Q1 := hide ((unhide K3).one (fun S hn hlt => Double_in hn hlt hnum))
  have Q2 := hide (fun X (K : SK S0 T0 W x b r g kb (dblS s x.num) s X) => K.two (fun T hl hf => rDouble_in hl x.num))
  have HY := hide (fun s2 X (K : SK S0 T0 W x b r g kb s2 s X) => K.y)
  obtain ⟨s2, hs2⟩ : ∃ s2, dblS s x.num = s2 := ⟨_, rfl⟩
  unfold two at Q1 Q2
  rw [hs2] at Q1 Q2 ⊢
  obtain ⟨N, hN⟩ : ∃ N, dblN s x.num = N := ⟨_, rfl⟩
  obtain ⟨C, hC⟩ : ∃ C, dblE s x.num = C := ⟨_, rfl⟩
  rw [hN, hC] at Q1 Q2
  clear hs2 hN hC
  rw [hM] at ev
  have HVd := hide (And.intro ev (And.intro hM hM1))
  unfold stC at hX0
  unfold stC
  rw [ev] at hX0 y5 z5 r1 ⊢
  rw [hM] at r1 r2 hcap hxl
  rw [hM1] at r2 hcap
  have HR1 := hide r1
  have HR2 := hide r2
  have hM2 : M ≤ M1 := by omega
  have hM3 : M ≤ kb := by omega
  have hM4 : M1 ≤ 60001 := by omega
  clear r1 r2 ev hM
  replace hM1 := hide hM1
  go_enter Try.func13, Try.ntmps13
  go_wp2_with (first | (at_builtin; refine wpList_append_eq rfl _ _ 30 30 rfl _ _ _ _ rfl rfl (unhide HR1) ?_) | (at_builtin; refine wpList_append_eq rfl _ _ 30 30 rfl _ _ _ _ rfl rfl (unhide HR2) ?_))
  go_wp2_with fail
  refine (unhide Q1).mono ?_
  rintro e X4 ⟨rfl, K4⟩
  obtain ⟨w0, w1, w2, w3, w4, w5⟩ := unhide HY _ _ K4
  rw [(unhide HVd).1] at w5
  replace K4 := hide K4
  clear Q1 K3 z0 z1 z2 z3 z4 z5
  go_wp2_with fail
  refine (unhide Q2 _ (unhide K4)).mono ?_
  rintro e X6 ⟨rfl, K6⟩
  replace K6 := hide K6
  clear Q2 K4 w0 w1 w2 w3 w4 w5 HY
  have HTl := hide ((unhide K6).tail (unhide HVd).1 (unhide HVd).2.1 (unhide HVd).2.2 hxl)
  have w5 := (unhide HTl).1
  have HBy := hide (unhide HTl).2
  clear HTl K6
  go_wp2_with fail
  refine (unhide HBy).mono ?_
  rintro e X5 ⟨rfl, v5, v6, D0, hD0, hP0⟩
  have J0 : Hid (∃ D, D.length = M1 ∧ SPb S0 T0 W b r g kb M s2 D X5) := hide ⟨D0, hD0, hP0⟩
  have hi171 : M < M1 := by have := (unhide HVd).2.2; omega
  clear HBy w5 hD0 hP0
  go_wp2
  clear v5 v6
  go_loopw [28] (fun iv wr => ∃ i : Nat, i ≤ M1 ∧ iv = .int .i64 (i : Nat) ∧ Hid (∃ D, D.length = M1 ∧ SPb S0 T0 W b r g kb M s2 D wr)) (fun iv _ => M1 - (RowKit.intOf iv).toNat)
  case atStart => exact ⟨0, Nat.zero_le _, rfl, J0⟩
  case round =>
    obtain ⟨i, hi, rfl, HI⟩ := hrel
    clear J0
    obtain ⟨D, hDl, hPb⟩ := unhide HI
    by_cases hlt : i < M1
    · have hlt' : (i : Int) < (M1 : Int) := by omega
      obtain ⟨⟨u1, c1⟩, f1, hz⟩ := hPb.set (by rw [hDl]; exact (unhide HVd).2.2.symm) (j := i) (by have := (unhide HVd).2.2; omega)
      have FIN : Hid (∃ D, D.length = M1 ∧ SPb S0 T0 W b r g kb M s2 D (wr.setCell ⟨g, i, none⟩ (.int .u8 90))) := hide ⟨_, by rw [List.length_set]; exact hDl, hz 90⟩
      clear hPb hz HI hDl
      go_wp2
      go_roundw
      case rel => exact ⟨i + 1, by omega, by go_num, FIN⟩
      case measure => show M1 - ((i : Int) + 1).toNat < M1 - ((i : Nat) : Int).toNat; omega
    · obtain rfl : i = M1 := by omega
      have hlt' : ¬ (i : Int) < (i : Int) := by omega
      have FIN := hide hPb.fin
      clear hPb HI hDl
      go_wp2
      go_ret
      exact unhide FIN
set_option maxRecDepth 100000 in
set_option maxHeartbeats 8000000 in
theorem step_0 (h1 : NL S0 W b s) (h2 : HL T0 W r s) (hS : ∀ i, S0 i → i < W.heap.size ∧ ¬ T0 i) (hT : ∀ i, T0 i → i < W.heap.size) (x : Stp) (hx : StW W x) (hxl : x.dat.length ≤ 60000) (hfx : x.dat ≠ [] → ∀ i, x.vd.ownBlock = some i → ¬ S0 i ∧ ¬ T0 i) (hk1 : x.kind ≠ 1) (hk2 : x.kind ≠ 2) (hk3 : x.kind ≠ 3) (hk4 : x.kind ≠ 4) (hk5 : x.kind ≠ 5) (hk6 : x.kind ≠ 6)  : Calls Try.prog 13 #[.pointer (some ⟨b, 0, none⟩), .pointer (some ⟨r, 0, none⟩), .agg (stC x)] W (StA S0 T0 W b r (doS s x)) := by
  rw [show doS s x = s by unfold doS; rw [if_neg hk1, if_neg hk2, if_neg hk3, if_neg hk4, if_neg hk5, if_neg hk6]]
  have q1 : (x.kind == 1) = false := by rw [beq_eq_false_iff_ne]; exact hk1
  have q2 : (x.kind == 2) = false := by rw [beq_eq_false_iff_ne]; exact hk2
  have q3 : (x.kind == 3) = false := by rw [beq_eq_false_iff_ne]; exact hk3
  have q4 : (x.kind == 4) = false := by rw [beq_eq_false_iff_ne]; exact hk4
  have q5 : (x.kind == 5) = false := by rw [beq_eq_false_iff_ne]; exact hk5
  have q6 : (x.kind == 6) = false := by rw [beq_eq_false_iff_ne]; exact hk6
  clear hk1 hk2 hk3 hk4 hk5 hk6
  obtain ⟨X0, a1, k1, X1, X2, g, kb, X3, hX0, bx0, r1, hX2, r2, hKE, hSP⟩ := step_rows h1 h2 hS hT hx hxl hfx
  have K3 := hide (show SK S0 T0 W x b r g kb s s X3 from ⟨_, hSP, hKE⟩)
  obtain ⟨ad, cd, ev⟩ := hx.fd
  obtain ⟨M, hM⟩ : ∃ M, x.dat.length = M := ⟨_, rfl⟩
  obtain ⟨M1, hM1⟩ : ∃ M1, M + 1 = M1 := ⟨_, rfl⟩
  have hcap := hKE.cap
  have hnum := hx.num
  obtain ⟨z0, z1, z2, z3, z4, z5⟩ := (unhide K3).y
  have y5 := bx0.cell 5 x.vd rfl
  clear h1 h2 hS hT hx hfx hKE hSP bx0
  obtain ⟨s2, hs2⟩ : ∃ s2, s = s2 := ⟨_, rfl⟩
  rw [hs2] at K3 ⊢
  clear hs2
  rw [hM] at ev
  have HVd := hide (And.intro ev (And.intro hM hM1))
  unfold stC at hX0
  unfold stC
  rw [ev] at hX0 y5 z5 r1 ⊢
  rw [hM] at r1 r2 hcap hxl
  rw [hM1] at r2 hcap
  have HR1 := hide r1
  have HR2 := hide r2
  have hM2 : M ≤ M1 := by omega
  have hM3 : M ≤ kb := by omega
  have hM4 : M1 ≤ 60001 := by omega
  clear r1 r2 ev hM
  replace hM1 := hide hM1
  go_enter Try.func13, Try.ntmps13
  go_wp2_with (first | (at_builtin; refine wpList_append_eq rfl _ _ 30 30 rfl _ _ _ _ rfl rfl (unhide HR1) ?_) | (at_builtin; refine wpList_append_eq rfl _ _ 30 30 rfl _ _ _ _ rfl rfl (unhide HR2) ?_))
  have HTl := hide ((unhide K3).tail (unhide HVd).1 (unhide HVd).2.1 (unhide HVd).2.2 hxl)
  have w5 := (unhide HTl).1
  have HBy := hide (unhide HTl).2
  clear HTl K3
  clear z5
  go_wp2_with fail
  refine (unhide HBy).mono ?_
  rintro e X5 ⟨rfl, v5, v6, D0, hD0, hP0⟩
  have J0 : Hid (∃ D, D.length = M1 ∧ SPb S0 T0 W b r g kb M s2 D X5) := hide ⟨D0, hD0, hP0⟩
  have hi171 : M < M1 := by have := (unhide HVd).2.2; omega
  clear HBy w5 hD0 hP0
  go_wp2
  clear v5 v6
  go_loopw [28] (fun iv wr => ∃ i : Nat, i ≤ M1 ∧ iv = .int .i64 (i : Nat) ∧ Hid (∃ D, D.length = M1 ∧ SPb S0 T0 W b r g kb M s2 D wr)) (fun iv _ => M1 - (RowKit.intOf iv).toNat)
  case atStart => exact ⟨0, Nat.zero_le _, rfl, J0⟩
  case round =>
    obtain ⟨i, hi, rfl, HI⟩ := hrel
    clear J0
    obtain ⟨D, hDl, hPb⟩ := unhide HI
    by_cases hlt : i < M1
    · have hlt' : (i : Int) < (M1 : Int) := by omega
      obtain ⟨⟨u1, c1⟩, f1, hz⟩ := hPb.set (by rw [hDl]; exact (unhide HVd).2.2.symm) (j := i) (by have := (unhide HVd).2.2; omega)
      have FIN : Hid (∃ D, D.length = M1 ∧ SPb S0 T0 W b r g kb M s2 D (wr.setCell ⟨g, i, none⟩ (.int .u8 90))) := hide ⟨_, by rw [List.length_set]; exact hDl, hz 90⟩
      clear hPb hz HI hDl
      go_wp2
      go_roundw
      case rel => exact ⟨i + 1, by omega, by go_num, FIN⟩
      case measure => show M1 - ((i : Int) + 1).toNat < M1 - ((i : Nat) : Int).toNat; omega
    · obtain rfl : i = M1 := by omega
      have hlt' : ¬ (i : Int) < (i : Int) := by omega
      have FIN := hide hPb.fin
      clear hPb HI hDl
      go_wp2
      go_ret
      exact unhide FIN

end Go.Proofs.Yteomalmflebkhaa
