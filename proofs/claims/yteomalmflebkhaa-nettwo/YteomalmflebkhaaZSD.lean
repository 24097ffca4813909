/-
  The law's step, by its kinds.
-/
import Derived.Test.YteomalmflebkhaaZSB
set_option linter.unusedSimpArgs false
set_option linter.unusedVariables false
namespace Go.Proofs.Yteomalmflebkhaa
open Go.RowKit Go.Lib

variable {S0 T0 : Nat → Prop} {W : World} {b r : Nat} {s : Stn}
theorem tkC_len {s : Stn} (h : Gd s) (k : Int) : (tkC s k).dat.length ≤ 1000000 := by
  unfold tkC
  cases e : fnd s.ls k with
  | none => decide
  | some c => exact h.dat (fnd_mem e)
set_option maxRecDepth 100000 in
set_option maxHeartbeats 8000000 in
theorem step_2 (h1 : NL S0 W b s) (h2 : HL T0 W r s) (hS : ∀ i, S0 i → i < W.heap.size ∧ ¬ T0 i) (hT : ∀ i, T0 i → i < W.heap.size) (x : Stp) (hx : StW W x) (hxl : x.dat.length ≤ 60000) (hfx : x.dat ≠ [] → ∀ i, x.vd.ownBlock = some i → ¬ S0 i ∧ ¬ T0 i) (hk : x.kind = 2) : Calls Try.prog 13 #[.pointer (some ⟨b, 0, none⟩), .pointer (some ⟨r, 0, none⟩), .agg (stC x)] W (StA S0 T0 W b r (doS s x)) := by
  rw [show doS s x = tkS s x.num by unfold doS; rw [if_neg (by omega), if_pos hk]]
  have q1 : (x.kind == 1) = false := by rw [hk]; rfl
  have q2 : (x.kind == 2) = true := by simpa using hk
  clear hk
  obtain ⟨X0, a1, k1, X1, X2, g, kb, X3, hX0, bx0, r1, hX2, r2, hKE, hSP⟩ := step_rows h1 h2 hS hT hx hxl hfx
  have K3 := hide (show SK S0 T0 W x b r g kb s s X3 from ⟨_, hSP, hKE⟩)
  obtain ⟨ad, cd, ev⟩ := hx.fd
  obtain ⟨M, hM⟩ : ∃ M, x.dat.length = M := ⟨_, rfl⟩
  obtain ⟨M1, hM1⟩ : ∃ M1, M + 1 = M1 := ⟨_, rfl⟩
  have hcap := hKE.cap
  have hnum := hx.num
  obtain ⟨z0, z1, z2, z3, z4, z5⟩ := (unhide K3).y
  have y5 := bx0.cell 5 x.vd rfl
  clear h1 h2 hS hT hx hfx hKE hSP bx0
  have Q1 := hide ((unhide K3).tk1 (fun S hn hlt => Deliver_in hn hlt hnum))
  have Q2 := hide (fun X s2 ba a n D (K : SKa S0 T0 W x b r g kb s2 s ba (tkC s x.num) a (tkC s x.num).dat.length n D X) => K.tk2 (fun T hl => rDeliver_in hl x.num))
  have HLn : Hid ((tkC s x.num).dat.length ≤ 1000000) := hide (tkC_len (unhide K3).gd x.num)
  obtain ⟨s2, hs2⟩ : ∃ s2, tkS s x.num = s2 := ⟨_, rfl⟩
  obtain ⟨c, hc⟩ : ∃ c, tkC s x.num = c := ⟨_, rfl⟩
  obtain ⟨C, hC⟩ : ∃ C, tkE s x.num = C := ⟨_, rfl⟩
  rw [hs2, hc, hC] at Q1 Q2
  rw [hs2]
  rw [hc] at HLn
  have HSm := hide (fun X a1 k1 a2 k2 h1 h2 => same_in c c a1 a2 k1 k2 X h1 h2 (unhide HLn) (unhide HLn))
  rw [eqC_self] at HSm
  have HY := hide (fun s2 s X (K : SK S0 T0 W x b r g kb s2 s X) => K.y)
  unfold cpV at Q1 Q2 HSm
  obtain ⟨L, hL⟩ : ∃ L, c.dat.length = L := ⟨_, rfl⟩
  have HL := hide hL
  rw [hL] at Q1 Q2 HSm HLn
  clear hs2 hc hC hL
  rw [hM] at ev
  have HVd := hide (And.intro ev (And.intro hM hM1))
  unfold stC at hX0
  unfold stC
  rw [ev] at hX0 y5 z5 r1 ⊢
  rw [hM] at r1 r2 hcap hxl
  rw [hM1] at r2 hcap
  have HR1 := hide r1
  have HR2 := hide r2
  have hM2 : M ≤ M1 := by omega
  have hM3 : M ≤ kb := by omega
  have hM4 : M1 ≤ 60001 := by omega
  clear r1 r2 ev hM
  replace hM1 := hide hM1
  go_enter Try.func13, Try.ntmps13
  go_wp2_with (first | (at_builtin; refine wpList_append_eq rfl _ _ 30 30 rfl _ _ _ _ rfl rfl (unhide HR1) ?_) | (at_builtin; refine wpList_append_eq rfl _ _ 30 30 rfl _ _ _ _ rfl rfl (unhide HR2) ?_))
  go_wp2_with fail
  refine (unhide Q1).mono ?_
  rintro e X4 ⟨a4, n4, rfl, Xa, Xb, hXa, bxa, hXb, KA⟩
  obtain ⟨w0, w1, w2, w3, w4, w5⟩ := unhide HY _ _ _ KA.sk
  have hbx := KA.bx
  unfold cpC at hbx
  replace KA := hide KA
  have Q3 := hide (unhide Q2 _ _ _ _ _ _ (unhide KA))
  have hlA := bxa.lt
  have sa0 := bxa.cell 0 _ rfl
  have saf0 := bxa.frozen 0
  have sa1 := bxa.cell 1 _ rfl
  have saf1 := bxa.frozen 1
  have sa2 := bxa.cell 2 _ rfl
  have saf2 := bxa.frozen 2
  have sa3 := bxa.cell 3 _ rfl
  have saf3 := bxa.frozen 3
  have sa4 := bxa.cell 4 _ rfl
  have saf4 := bxa.frozen 4
  have sa5 := bxa.cell 5 _ rfl
  have saf5 := bxa.frozen 5
  have sb0 := hbx.cell 0 _ rfl
  have sb1 := hbx.cell 1 _ rfl
  have sb2 := hbx.cell 2 _ rfl
  have sb3 := hbx.cell 3 _ rfl
  have sb4 := hbx.cell 4 _ rfl
  have sb5 := hbx.cell 5 _ rfl
  clear Q1 Q2 K3 bxa hbx z0 z1 z2 z3 z4 z5
  go_wp2_with fail
  clear sa0 sa1 sa2 sa3 sa4 sa5 saf0 saf1 saf2 saf3 saf4 saf5 sb0 sb1 sb2 sb3 sb4 sb5 hlA hXa hXb
  refine (unhide Q3).mono ?_
  rintro e X6 ⟨a6, n6, rfl, Xc, Xd, hXc, bxc, hXd, bxd, rd6, KB⟩
  have rd4 := KB.row
  have hLb := unhide HLn
  have HSx := hide (unhide HSm _ _ _ _ _ rd4.row rd6)
  have hbx2 := KB.bx
  unfold cpC at hbx2 bxd
  have hlC := bxc.lt
  replace KB := hide KB
  have ta0 := bxc.cell 0 _ rfl
  have taf0 := bxc.frozen 0
  have ta1 := bxc.cell 1 _ rfl
  have taf1 := bxc.frozen 1
  have ta2 := bxc.cell 2 _ rfl
  have taf2 := bxc.frozen 2
  have ta3 := bxc.cell 3 _ rfl
  have taf3 := bxc.frozen 3
  have ta4 := bxc.cell 4 _ rfl
  have taf4 := bxc.frozen 4
  have ta5 := bxc.cell 5 _ rfl
  have taf5 := bxc.frozen 5
  have tb0 := bxd.cell 0 _ rfl
  have tb1 := bxd.cell 1 _ rfl
  have tb2 := bxd.cell 2 _ rfl
  have tb3 := bxd.cell 3 _ rfl
  have tb4 := bxd.cell 4 _ rfl
  have tb5 := bxd.cell 5 _ rfl
  have tc0 := hbx2.cell 0 _ rfl
  have tc1 := hbx2.cell 1 _ rfl
  have tc2 := hbx2.cell 2 _ rfl
  have tc3 := hbx2.cell 3 _ rfl
  have tc4 := hbx2.cell 4 _ rfl
  have tc5 := hbx2.cell 5 _ rfl
  clear Q3 bxc bxd hbx2 rd4 rd6 w0 w1 w2 w3 w4 w5 KA
  go_wp2_with fail
  refine (unhide HSx).mono ?_
  rintro e X7 ⟨rfl, b7⟩
  clear ta0 ta1 ta2 ta3 ta4 ta5 taf0 taf1 taf2 taf3 taf4 taf5 tb0 tb1 tb2 tb3 tb4 tb5 tc0 tc1 tc2 tc3 tc4 tc5 hlC hXc hXd HSx HSm
  have hbx7 := ((unhide KB).below b7).bx
  have p3 := hbx7.cell 3 (.slice a4 L n4) rfl
  have hl7 := hbx7.lt
  have J1 : Hid (∃ D, D.length = L ∧ SKa S0 T0 W x b r g kb s2 s2 X4.heap.size c a4 L n4 D X7) := hide ⟨_, unhide HL, (unhide KB).below b7⟩
  clear KB b7 hbx7
  generalize hba : X4.heap.size = ba at *
  clear hba
  go_wp2
  clear p3 hl7
  go_loopw [18] (fun iv wr => ∃ i : Nat, i ≤ L ∧ iv = .int .i64 (i : Nat) ∧ Hid (∃ D, D.length = L ∧ SKa S0 T0 W x b r g kb s2 s2 ba c a4 L n4 D wr)) (fun iv _ => L - (RowKit.intOf iv).toNat)
  case atStart => exact ⟨0, Nat.zero_le _, rfl, J1⟩
  case round =>
    obtain ⟨i, hi, rfl, HI⟩ := hrel
    clear J1
    obtain ⟨D, hDl, KC⟩ := unhide HI
    have p3 := KC.bx.cell 3 (.slice a4 L n4) rfl
    have hl7 := KC.bx.lt
    by_cases hlt : i < L
    · have hlt' : (i : Int) < (L : Int) := by omega
      obtain ⟨g2, rfl, ⟨u1, c1⟩, f1, hz⟩ := KC.set hDl (j := i) hlt
      have FIN : Hid (∃ D, D.length = L ∧ SKa S0 T0 W x b r g kb s2 s2 ba c (some ⟨g2, 0, none⟩) L n4 D (wr.setCell ⟨g2, i, none⟩ (.int .u8 88))) := hide ⟨_, by rw [List.length_set]; exact hDl, hz 88⟩
      clear KC hz HI hDl
      go_wp2
      go_roundw
      case rel => exact ⟨i + 1, by omega, by go_num, FIN⟩
      case measure => show L - ((i : Int) + 1).toNat < L - ((i : Nat) : Int).toNat; omega
    · obtain rfl : i = L := by omega
      have hlt' : ¬ (i : Int) < (i : Int) := by omega
      have K9 := hide KC.sk
      clear KC HI hDl
      have HTl := hide ((unhide K9).tail (unhide HVd).1 (unhide HVd).2.1 (unhide HVd).2.2 hxl)
      have w5 := (unhide HTl).1
      have HBy := hide (unhide HTl).2
      clear HTl K9
      go_wp2_with fail
      refine (unhide HBy).mono ?_
      rintro e X5 ⟨rfl, v5, v6, D0, hD0, hP0⟩
      have J0 : Hid (∃ D, D.length = M1 ∧ SPb S0 T0 W b r g kb M s2 D X5) := hide ⟨D0, hD0, hP0⟩
      have hi171 : M < M1 := by have := (unhide HVd).2.2; omega
      clear HBy w5 hD0 hP0
      go_wp2
      clear v5 v6
      go_loopw [28] (fun iv wr => ∃ i : Nat, i ≤ M1 ∧ iv = .int .i64 (i : Nat) ∧ Hid (∃ D, D.length = M1 ∧ SPb S0 T0 W b r g kb M s2 D wr)) (fun iv _ => M1 - (RowKit.intOf iv).toNat)
      case atStart => exact ⟨0, Nat.zero_le _, rfl, J0⟩
      case round =>
        obtain ⟨i, hi, rfl, HI⟩ := hrel
        clear J0
        obtain ⟨D, hDl, hPb⟩ := unhide HI
        by_cases hlt : i < M1
        · have hlt' : (i : Int) < (M1 : Int) := by omega
          obtain ⟨⟨u1, c1⟩, f1, hz⟩ := hPb.set (by rw [hDl]; exact (unhide HVd).2.2.symm) (j := i) (by have := (unhide HVd).2.2; omega)
          have FIN : Hid (∃ D, D.length = M1 ∧ SPb S0 T0 W b r g kb M s2 D (wr.setCell ⟨g, i, none⟩ (.int .u8 90))) := hide ⟨_, by rw [List.length_set]; exact hDl, hz 90⟩
          clear hPb hz HI hDl
          go_wp2
          go_roundw
          case rel => exact ⟨i + 1, by omega, by go_num, FIN⟩
          case measure => show M1 - ((i : Int) + 1).toNat < M1 - ((i : Nat) : Int).toNat; omega
        · obtain rfl : i = M1 := by omega
          have hlt' : ¬ (i : Int) < (i : Int) := by omega
          have FIN := hide hPb.fin
          clear hPb HI hDl
          go_wp2
          go_ret
          exact unhide FIN

end Go.Proofs.Yteomalmflebkhaa
