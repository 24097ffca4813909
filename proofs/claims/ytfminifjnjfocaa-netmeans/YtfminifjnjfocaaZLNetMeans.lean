/-
  Chapter 20's law NetMeans returns true for every script, and leaves its argument as it was; no condition.
-/
import Derived.Test.YtfminifjnjfocaaRows
import Derived.WalkKit
import Derived.ProofKit
import Derived.OpenShut
import Derived.ShutString
import Derived.ChangeOld
import Derived.Below
import Derived.Test.YtfminifjnjfocaaZMD
import Derived.Deep.CutRange
set_option linter.unusedVariables false
set_option linter.unusedSimpArgs false
namespace Go.Proofs.Ytfminifjnjfocaa
namespace LNetMeans
open Go.ChangeShapes Go.WideShapes Go.ChangeAt Go.RowKit Go.Lib
open Go.ChangeMaps (open_string shut_string)

open Go.RowKit Go.Lib
set_option maxRecDepth 100000 in
set_option maxHeartbeats 16000000 in
theorem walk (a : Option Addr) (len cap : Nat) (z : List Stp) (W : World) (h : RSt W (.slice a len cap) z ∧ z.length = len ∧ len ≤ maxLen ∧ ∀ e ∈ z, StW W e) : Calls Try.prog 6 #[.slice a len cap] W fun e W' => e = .returned (.bool true) ∧ Below W.heap.size W W' := by
  obtain ⟨hR, hl, hm, hS⟩ := h
  subst hl
  have HR := hide hR
  have HSt := hide hS
  have HMu := hide (much_in z a cap W hR hS (by unfold maxLen at hm; omega))
  have HK := hide (known_in W)
  have HN := hide (New_in W)
  obtain ⟨n, hn⟩ : ∃ n, z.length = n := ⟨_, rfl⟩
  have Hn := hide hn
  rw [hn] at HMu ⊢
  clear hn hR hS hm
  go_enter Try.func6, Try.ntmps6
  go_wp2_with fail
  refine (unhide HMu).mono ?_
  rintro e W1 ⟨R, rfl, hsm, rfl⟩
  clear HMu
  by_cases hbig : R = true ∨ 100 < n
  · clear hsm HN
    cases R with
    | true =>
      go_wp2_with fail
      refine (unhide HK).mono ?_
      rintro e W2 ⟨rfl, hb⟩
      have HB := hide hb
      clear hb HK
      go_wp2
      go_ret
      exact ⟨rfl, unhide HB⟩
    | false =>
      have hg : 100 < n := by simpa using hbig
      have hg' : (100 : Int) < (n : Int) := by omega
      go_wp2_with fail
      refine (unhide HK).mono ?_
      rintro e W2 ⟨rfl, hb⟩
      have HB := hide hb
      clear hb HK
      go_wp2
      go_ret
      exact ⟨rfl, unhide HB⟩
  have hR0 : R = false := by cases R with | false => rfl | true => exact absurd (.inl rfl) hbig
  subst hR0
  have hn1 : n ≤ 100 := by simpa using hbig
  have hg' : ¬ (100 : Int) < (n : Int) := by omega
  have HSm := hide (hsm rfl)
  clear hbig hsm HK
  go_wp2_with fail
  refine (unhide HN).mono ?_
  rintro e W2 ⟨rfl, hnl, hb⟩
  have J0 : Hid (∃ S, M0 W S W2 W.heap.size zerS (.slice none 0 0) (.slice none 0 0) [] []) := hide ⟨_, KN.new W (Below.refl _ _) hnl hb, ⟨World.ownsRow_nil _ _ _ _, fun x hx => (by cases hx)⟩, World.ownsRow_nil _ _ _ _, fun i hi => (by cases hi), fun i hi => (by cases hi)⟩
  generalize hbb : W.heap.size = b at J0 ⊢
  have Hbb := hide hbb
  clear HN hnl hb hbb
  go_wp2
  go_loopw [4, 5, 6] (fun vb vt iv wr => ∃ (i nb kb kt : Nat) (ab at' : Option Addr), i ≤ n ∧ nb ≤ i ∧ vb = .slice ab nb kb ∧ vt = .slice at' nb kt ∧ iv = .int .i64 (i : Nat) ∧ Hid (∃ S s Lb Th, M0 W S wr b s (.slice ab nb kb) (.slice at' nb kt) Lb Th ∧ MI s (Lb.map Prod.fst) Th ∧ Lb.length = nb)) (fun _ _ iv _ => n - (RowKit.intOf iv).toNat)
  case atStart =>
    obtain ⟨S, h⟩ := unhide J0
    exact ⟨0, 0, 0, 0, none, none, Nat.zero_le _, Nat.zero_le _, rfl, rfl, rfl, hide ⟨S, _, [], [], h, MI.zer, rfl⟩⟩
  case round =>
    obtain ⟨i, nb, kb, kt, ab, at', hi, hnbi, rfl, rfl, rfl, HI⟩ := hrel
    clear J0
    by_cases hlt : i < n
    · have hlt' : (i : Int) < (n : Int) := by omega
      obtain ⟨S, s, Lb, Th, J, hMI, hLb⟩ := unhide HI
      obtain ⟨e0, he0⟩ : ∃ e0, z[i]? = some e0 := ⟨_, List.getElem?_eq_getElem (by rw [unhide Hn]; exact hlt)⟩
      have hmem := List.mem_of_getElem? he0
      have rr := (unhide HR).below J.kn.bel
      rw [show (Value.slice a z.length cap) = .slice a n cap by rw [unhide Hn]] at rr
      obtain ⟨bs, os, rfl, _, u0, u1, u2, u3, u4, u5⟩ := rr.at he0
      have hst := unhide HSt e0 hmem
      have hdl := (unhide HSm).2 e0 hmem
      obtain ⟨ae, ce, ee⟩ := hst.fd
      rw [ee] at u5
      have Hst := hide (And.intro hst hdl)
      have Hee := hide ee
      obtain ⟨ne, hne⟩ : ∃ ne, e0.dat.length = ne := ⟨_, rfl⟩
      rw [hne] at u5
      have Hne := hide hne
      obtain ⟨X1, hX1⟩ : ∃ X, wr.alloc (.cells #[.int .i64 0, .int .i64 0, .int .i64 0, .int .i64 0, .int .i64 0, .slice none 0 0] 32) = X := ⟨_, rfl⟩
      obtain ⟨Y1, hY1⟩ : ∃ Y, (((((X1.setCell ⟨wr.heap.size, 0, none⟩ (.int .i64 e0.kind)).setCell ⟨wr.heap.size, 1, none⟩ (.int .i64 e0.num)).setCell ⟨wr.heap.size, 2, none⟩ (.int .i64 e0.frm)).setCell ⟨wr.heap.size, 3, none⟩ (.int .i64 e0.to)).setCell ⟨wr.heap.size, 4, none⟩ (.int .i64 e0.at_)).setCell ⟨wr.heap.size, 5, none⟩ (.slice ae ne ce) = Y := ⟨_, rfl⟩
      obtain ⟨bxA, byA, blA⟩ := new6 hX1 _ _ _ _ _ _ hY1
      have Az0 := bxA.cell 0 (.int .i64 0) rfl
      have Af0 := bxA.frozen 0
      have Az1 := bxA.cell 1 (.int .i64 0) rfl
      have Af1 := bxA.frozen 1
      have Az2 := bxA.cell 2 (.int .i64 0) rfl
      have Af2 := bxA.frozen 2
      have Az3 := bxA.cell 3 (.int .i64 0) rfl
      have Af3 := bxA.frozen 3
      have Az4 := bxA.cell 4 (.int .i64 0) rfl
      have Af4 := bxA.frozen 4
      have Az5 := bxA.cell 5 (.slice none 0 0) rfl
      have Af5 := bxA.frozen 5
      have At0 := byA.cell 0 (.int .i64 e0.kind) rfl
      have At1 := byA.cell 1 (.int .i64 e0.num) rfl
      have At2 := byA.cell 2 (.int .i64 e0.frm) rfl
      have At3 := byA.cell 3 (.int .i64 e0.to) rfl
      have At4 := byA.cell 4 (.int .i64 e0.at_) rfl
      have At5 := byA.cell 5 (.slice ae ne ce) rfl
      have byA' : Bx Y1 wr.heap.size 32 (stC e0) := by unfold stC; rw [ee, hne]; exact byA
      have K0 := J.box blA byA'
      have HD := hide ((do_in K0.kn.nl (fun i hi => (K0.kn.lo i hi).2) e0 (hst.below K0.kn.bel) (by omega)).mono (fun e W h => K0.call h))
      unfold stC at HD
      rw [ee, hne] at HD
      obtain ⟨N, hN⟩ : ∃ N, doN s e0 = N := ⟨_, rfl⟩
      obtain ⟨s2, hs2⟩ : ∃ s2, doS s e0 = s2 := ⟨_, rfl⟩
      rw [hN, hs2] at HD
      have HNs := hide (And.intro hN hs2)
      have hla := hMI.la
      rw [List.length_map, hLb] at hla
      have HM := hide (And.intro hMI (And.intro hLb (And.intro hla J.kn.nl.gd)))
      clear HI J hMI hLb he0 hmem rr hst hdl ee hne K0 hN hs2 hla bxA byA blA byA'
      go_wp2_with fail
      refine (unhide HD).mono ?_
      rintro e V1 ⟨rfl, S1, K1⟩
      have HK1 := hide K1
      clear HD K1 Az0 Af0 Az1 Af1 Az2 Af2 Az3 Af3 Az4 Af4 Az5 Af5 At0 At1 At2 At3 At4 At5 u0 u1 u2 u3 u4 u5
      -- a new copy
      go_upto_if 40 with fail
      clear hX1 hY1
      generalize wr.heap.size = q at HK1 ⊢
      go_cut [4, 5, 9] from 41 to 94 (fun vb' vt' u wx => ∃ (nb2 kb2 kt2 : Nat) (ab2 at2 : Option Addr), nb2 ≤ i + 1 ∧ vb' = .slice ab2 nb2 kb2 ∧ vt' = .slice at2 nb2 kt2 ∧ Hid (∃ Lb2 Th2, MK W q e0 S1 wx b s2 (.slice ab2 nb2 kb2) (.slice at2 nb2 kt2) Lb2 Th2 ∧ Lb2.length = nb2 ∧ ((e0.kind = 2 ∨ e0.kind = 3) → MI s (Lb2.map Prod.fst) Th2) ∧ (¬ (e0.kind = 2 ∨ e0.kind = 3) → MI s2 (Lb2.map Prod.fst) Th2)))
      case first =>
        obtain ⟨hMI, hLb, hla, hgd⟩ := unhide HM
        obtain ⟨hN, hs2⟩ := unhide HNs
        have hla1 : s.la ≤ 100 := by omega
        have K1 := unhide HK1
        by_cases hN0 : N = 0
        · have FIN : Hid (∃ Lb2 Th2, MK W q e0 S1 V1 b s2 (.slice ab nb kb) (.slice at' nb kt) Lb2 Th2 ∧ Lb2.length = nb ∧ ((e0.kind = 2 ∨ e0.kind = 3) → MI s (Lb2.map Prod.fst) Th2) ∧ (¬ (e0.kind = 2 ∨ e0.kind = 3) → MI s2 (Lb2.map Prod.fst) Th2)) := hide ⟨Lb, Th, K1, hLb, fun _ => hMI, fun hk => by rw [← hs2]; exact hMI.do0 hgd hla1 (by rw [hN]; exact hN0) (fun e => hk (.inl e)) (fun e => hk (.inr e))⟩
          have hNb : (N != 0) = false := by simpa using hN0
          clear hMI hLb hla hgd hN hs2 hla1 K1 hN0
          go_wp2
          go_meet
          case rel => exact ⟨nb, kb, kt, ab, at', by omega, rfl, rfl, FIN⟩
        · have hthl : Th.length = nb := by rw [hMI.tl, List.length_map, hLb]
          rcases do_kinds (by rw [hN]; exact hN0) with hk1 | hk4
          · obtain ⟨hN1, hs1⟩ := do_snd hgd hla1 hk1 (by rw [hN]; exact hN0)
            rw [hN] at hN1
            rw [hs2] at hs1
            have hNn : N = (nb : Int) + 1 := by omega
            have hmi2 : MI s2 (Lb.map Prod.fst ++ [⟨(nb : Int) + 1, e0.frm, e0.to, e0.dat, e0.at_, false, []⟩]) (Th ++ [true]) := by rw [hs1]; exact hMI.lay hgd (by omega) ⟨rfl, rfl, rfl, rfl, rfl⟩
            obtain ⟨g0, g1, g2, g3, g4, g5⟩ : V1.cell? ⟨q, 0, none⟩ = some (.int .i64 e0.kind) ∧ V1.cell? ⟨q, 1, none⟩ = some (.int .i64 e0.num) ∧ V1.cell? ⟨q, 2, none⟩ = some (.int .i64 e0.frm) ∧ V1.cell? ⟨q, 3, none⟩ = some (.int .i64 e0.to) ∧ V1.cell? ⟨q, 4, none⟩ = some (.int .i64 e0.at_) ∧ V1.cell? ⟨q, 5, none⟩ = some (.slice ae ne ce) := ⟨K1.bo.cell 0 _ rfl, K1.bo.cell 1 _ rfl, K1.bo.cell 2 _ rfl, K1.bo.cell 3 _ rfl, K1.bo.cell 4 _ rfl, by rw [← unhide Hne, ← unhide Hee]; exact K1.bo.cell 5 _ rfl⟩
            obtain ⟨X2, hX2⟩ : ∃ X, V1.alloc (.cells #[.int .i64 0, .int .i64 0, .int .i64 0, .slice none 0 0, .int .i64 0, .bool false] 44) = X := ⟨_, rfl⟩
            obtain ⟨Y2, hY2⟩ : ∃ Y, (((((X2.setCell ⟨V1.heap.size, 0, none⟩ (.int .i64 ((nb : Int) + 1))).setCell ⟨V1.heap.size, 1, none⟩ (.int .i64 e0.frm)).setCell ⟨V1.heap.size, 2, none⟩ (.int .i64 e0.to)).setCell ⟨V1.heap.size, 3, none⟩ (.slice ae ne ce)).setCell ⟨V1.heap.size, 4, none⟩ (.int .i64 e0.at_)).setCell ⟨V1.heap.size, 5, none⟩ (.bool false) = Y := ⟨_, rfl⟩
            obtain ⟨bxB, byB, blB⟩ := new6 hX2 _ _ _ _ _ _ hY2
            have Bz0 := bxB.cell 0 (.int .i64 0) rfl
            have Bf0 := bxB.frozen 0
            have Bz1 := bxB.cell 1 (.int .i64 0) rfl
            have Bf1 := bxB.frozen 1
            have Bz2 := bxB.cell 2 (.int .i64 0) rfl
            have Bf2 := bxB.frozen 2
            have Bz3 := bxB.cell 3 (.slice none 0 0) rfl
            have Bf3 := bxB.frozen 3
            have Bz4 := bxB.cell 4 (.int .i64 0) rfl
            have Bf4 := bxB.frozen 4
            have Bz5 := bxB.cell 5 (.bool false) rfl
            have Bf5 := bxB.frozen 5
            have Bt0 := byB.cell 0 (.int .i64 ((nb : Int) + 1)) rfl
            have Bt1 := byB.cell 1 (.int .i64 e0.frm) rfl
            have Bt2 := byB.cell 2 (.int .i64 e0.to) rfl
            have Bt3 := byB.cell 3 (.slice ae ne ce) rfl
            have Bt4 := byB.cell 4 (.int .i64 e0.at_) rfl
            have Bt5 := byB.cell 5 (.bool false) rfl
            have K2 := K1.below blB
            have kk0 : Y2.cell? ⟨q, 0, none⟩ = some (.int .i64 e0.kind) := K2.bo.cell 0 _ rfl
            obtain ⟨a5, k5, Z1, a6, k6, Z2, HA1, HA2, K3⟩ := K2.more (y := (⟨(nb : Int) + 1, e0.frm, e0.to, e0.dat, e0.at_, false, []⟩, .slice ae ne ce)) ⟨by rw [← unhide Hne, ← unhide Hee]; exact (unhide Hst).1.rd, (unhide Hst).2⟩ (by omega) (by omega) 52 53
            rw [hLb] at HA1 K3
            rw [hthl] at HA2 K3
            have FIN : Hid (∃ Lb2 Th2, MK W q e0 S1 Z2 b s2 (.slice a5 (nb + 1) k5) (.slice a6 (nb + 1) k6) Lb2 Th2 ∧ Lb2.length = nb + 1 ∧ ((e0.kind = 2 ∨ e0.kind = 3) → MI s (Lb2.map Prod.fst) Th2) ∧ (¬ (e0.kind = 2 ∨ e0.kind = 3) → MI s2 (Lb2.map Prod.fst) Th2)) := hide ⟨_, _, K3, by simp [hLb], fun e => by omega, fun _ => by rw [List.map_append]; exact hmi2⟩
            have hk4 : (e0.kind == 4) = false := by rw [beq_eq_false_iff_ne]; omega
            have hNb : (N != 0) = true := by simpa using hN0
            replace HA1 := hide HA1
            replace HA2 := hide HA2
            have hnq : ((nb : Int) + 1 != (nb : Int) + 1) = false := by simp
            have hNb' : ((nb : Int) + 1 != 0) = true := by rw [← hNn]; exact hNb
            clear hMI hLb hla hgd hN hs2 hla1 K1 K2 K3 hN0 hN1 hs1 hmi2 hthl hk1 bxB byB blB hNb
            subst hNn
            clear HNs
            go_wp2_with (first | (at_builtin; refine wpList_append_eq rfl _ _ 52 52 rfl _ _ _ _ rfl rfl (unhide HA1) ?_) | (at_builtin; refine wpList_append_eq rfl _ _ 53 53 rfl _ _ _ _ rfl rfl (unhide HA2) ?_))
            go_meet
            case rel => exact ⟨nb + 1, k5, k6, a5, a6, by omega, rfl, rfl, FIN⟩
          · obtain ⟨hN1, c0, hc0, hs1⟩ := do_dbl hgd hla1 hk4 (by rw [hN]; exact hN0)
            rw [hN] at hN1
            rw [hs2] at hs1
            have hNn : N = (nb : Int) + 1 := by omega
            have hcn := fnd_num hc0
            have hcl := hgd.le c0 (fnd_mem hc0)
            obtain ⟨cb, hcb, r1, r2, r3, r4⟩ := hMI.bk c0 (fnd_mem hc0)
            obtain ⟨j, hj⟩ : ∃ j : Nat, e0.num = (j : Int) + 1 := ⟨(e0.num - 1).toNat, by omega⟩
            have hjl : j < nb := by omega
            rw [show (c0.num - 1).toNat = j by omega, List.getElem?_map] at hcb
            obtain ⟨y0, hy0, hy0c⟩ : ∃ y0, Lb[j]? = some y0 ∧ y0.1 = cb := by
              cases hy : Lb[j]? with
              | none => rw [hy] at hcb; cases hcb
              | some y => rw [hy] at hcb; exact ⟨y, rfl, Option.some.inj hcb⟩
            obtain ⟨cb', v0⟩ := y0
            simp only at hy0c
            subst hy0c
            have hth : Th[j]? = some true := by rw [hMI.th j (by rw [List.length_map, hLb]; exact hjl), ← hj, hc0]; rfl
            have hbf : cb'.bad = false := hMI.nb cb' (List.mem_map.2 ⟨_, List.mem_of_getElem? hy0, rfl⟩)
            have hmi2 : MI s2 (Lb.map Prod.fst ++ [{ cb' with num := (nb : Int) + 1 }]) (Th ++ [true]) := by rw [hs1]; exact hMI.lay hgd (by omega) ⟨r1, r2, r3, r4, hbf⟩
            have hd0 := K1.br.dat _ (List.mem_of_getElem? hy0)
            obtain ⟨a0, k0, e00⟩ := hd0.1.form
            simp only at e00 hd0
            obtain ⟨n0, hn0⟩ : ∃ n0, cb'.cl.length = n0 := ⟨_, rfl⟩
            rw [hn0] at e00
            subst e00
            obtain ⟨g0, g1, g2, g3, g4, g5⟩ : V1.cell? ⟨q, 0, none⟩ = some (.int .i64 e0.kind) ∧ V1.cell? ⟨q, 1, none⟩ = some (.int .i64 ((j : Int) + 1)) ∧ V1.cell? ⟨q, 2, none⟩ = some (.int .i64 e0.frm) ∧ V1.cell? ⟨q, 3, none⟩ = some (.int .i64 e0.to) ∧ V1.cell? ⟨q, 4, none⟩ = some (.int .i64 e0.at_) ∧ V1.cell? ⟨q, 5, none⟩ = some (.slice ae ne ce) := ⟨K1.bo.cell 0 _ rfl, by rw [← hj]; exact K1.bo.cell 1 _ rfl, K1.bo.cell 2 _ rfl, K1.bo.cell 3 _ rfl, K1.bo.cell 4 _ rfl, by rw [← unhide Hne, ← unhide Hee]; exact K1.bo.cell 5 _ rfl⟩
            obtain ⟨X2, hX2⟩ : ∃ X, V1.alloc (.cells #[.int .i64 0, .int .i64 0, .int .i64 0, .slice none 0 0, .int .i64 0, .bool false] 44) = X := ⟨_, rfl⟩
            obtain ⟨Y2, hY2⟩ : ∃ Y, (((((X2.setCell ⟨V1.heap.size, 0, none⟩ (.int .i64 ((nb : Int) + 1))).setCell ⟨V1.heap.size, 1, none⟩ (.int .i64 e0.frm)).setCell ⟨V1.heap.size, 2, none⟩ (.int .i64 e0.to)).setCell ⟨V1.heap.size, 3, none⟩ (.slice ae ne ce)).setCell ⟨V1.heap.size, 4, none⟩ (.int .i64 e0.at_)).setCell ⟨V1.heap.size, 5, none⟩ (.bool false) = Y := ⟨_, rfl⟩
            obtain ⟨bxB, byB, blB⟩ := new6 hX2 _ _ _ _ _ _ hY2
            have Bz0 := bxB.cell 0 (.int .i64 0) rfl
            have Bf0 := bxB.frozen 0
            have Bz1 := bxB.cell 1 (.int .i64 0) rfl
            have Bf1 := bxB.frozen 1
            have Bz2 := bxB.cell 2 (.int .i64 0) rfl
            have Bf2 := bxB.frozen 2
            have Bz3 := bxB.cell 3 (.slice none 0 0) rfl
            have Bf3 := bxB.frozen 3
            have Bz4 := bxB.cell 4 (.int .i64 0) rfl
            have Bf4 := bxB.frozen 4
            have Bz5 := bxB.cell 5 (.bool false) rfl
            have Bf5 := bxB.frozen 5
            have Bt0 := byB.cell 0 (.int .i64 ((nb : Int) + 1)) rfl
            have Bt1 := byB.cell 1 (.int .i64 e0.frm) rfl
            have Bt2 := byB.cell 2 (.int .i64 e0.to) rfl
            have Bt3 := byB.cell 3 (.slice ae ne ce) rfl
            have Bt4 := byB.cell 4 (.int .i64 e0.at_) rfl
            have Bt5 := byB.cell 5 (.bool false) rfl
            have K2 := K1.below blB
            have kk0 : Y2.cell? ⟨q, 0, none⟩ = some (.int .i64 e0.kind) := K2.bo.cell 0 _ rfl
            have kk1 : Y2.cell? ⟨q, 1, none⟩ = some (.int .i64 ((j : Int) + 1)) := by rw [← hj]; exact K2.bo.cell 1 _ rfl
            obtain ⟨g6, eat, _, t6, _, _⟩ := K2.bt.at hth
            obtain ⟨g7, o7, eab, v70, v71, v72, v73, v74, v75⟩ := K2.br.at hy0
            subst eat eab
            simp only at v70 v71 v72 v73 v74 v75
            obtain ⟨Y3, hY3⟩ : ∃ Y, (((((Y2.setCell ⟨V1.heap.size, 0, none⟩ (.int .i64 cb'.num)).setCell ⟨V1.heap.size, 1, none⟩ (.int .i64 cb'.frm)).setCell ⟨V1.heap.size, 2, none⟩ (.int .i64 cb'.to)).setCell ⟨V1.heap.size, 3, none⟩ (.slice a0 n0 k0)).setCell ⟨V1.heap.size, 4, none⟩ (.int .i64 cb'.sent)).setCell ⟨V1.heap.size, 5, none⟩ (.bool cb'.bad) = Y := ⟨_, rfl⟩
            obtain ⟨by3, ky3⟩ := set6g byB _ _ _ _ _ _ hY3
            obtain ⟨Y4, hY4⟩ : ∃ Y, Y3.setCell ⟨V1.heap.size, 0, none⟩ (.int .i64 ((nb : Int) + 1)) = Y := ⟨_, rfl⟩
            have by4 : Bx Y4 V1.heap.size 44 #[.int .i64 ((nb : Int) + 1), .int .i64 cb'.frm, .int .i64 cb'.to, .slice a0 n0 k0, .int .i64 cb'.sent, .bool cb'.bad] := by rw [← hY4]; simpa using by3.set 0 (.int .i64 ((nb : Int) + 1))
            have ky4 : Kp (fun i => i = V1.heap.size) Y3 Y4 := by rw [← hY4]; exact Kp.set _ ⟨V1.heap.size, 0, none⟩ _ rfl
            have bl4 : Below V1.heap.size V1 Y4 := ky4.below (ky3.below blB (fun i e => by omega)) (fun i e => by omega)
            have c30 := by3.cell 0 (.int .i64 cb'.num) rfl
            have f30 := by3.frozen 0
            have bf0 := byB.frozen 0
            have bf1 := byB.frozen 1
            have bf2 := byB.frozen 2
            have bf3 := byB.frozen 3
            have bf4 := byB.frozen 4
            have bf5 := byB.frozen 5
            have c40 := by4.cell 0 (.int .i64 ((nb : Int) + 1)) rfl
            have c41 := by4.cell 1 (.int .i64 cb'.frm) rfl
            have c42 := by4.cell 2 (.int .i64 cb'.to) rfl
            have c43 := by4.cell 3 (.slice a0 n0 k0) rfl
            have c44 := by4.cell 4 (.int .i64 cb'.sent) rfl
            have c45 := by4.cell 5 (.bool cb'.bad) rfl
            have K4 := K1.below bl4
            obtain ⟨a5, k5, Z1, a6, k6, Z2, HA1, HA2, K3⟩ := K4.more (y := ({ cb' with num := (nb : Int) + 1 }, .slice a0 n0 k0)) hd0 (by omega) (by omega) 52 53
            rw [hLb] at HA1 K3
            rw [hthl] at HA2 K3
            have FIN : Hid (∃ Lb2 Th2, MK W q e0 S1 Z2 b s2 (.slice a5 (nb + 1) k5) (.slice a6 (nb + 1) k6) Lb2 Th2 ∧ Lb2.length = nb + 1 ∧ ((e0.kind = 2 ∨ e0.kind = 3) → MI s (Lb2.map Prod.fst) Th2) ∧ (¬ (e0.kind = 2 ∨ e0.kind = 3) → MI s2 (Lb2.map Prod.fst) Th2)) := hide ⟨_, _, K3, by simp [hLb], fun e => by omega, fun _ => by rw [List.map_append]; exact hmi2⟩
            have hk4' : (e0.kind == 4) = true := by simpa using hk4
            have hNb : (N != 0) = true := by simpa using hN0
            replace HA1 := hide HA1
            replace HA2 := hide HA2
            have hnq : ((nb : Int) + 1 != (nb : Int) + 1) = false := by simp
            have hNb' : ((nb : Int) + 1 != 0) = true := by rw [← hNn]; exact hNb
            have hx1 : ¬ (j : Int) + 1 < 1 := by omega
            have hx2 : ¬ (nb : Int) < (j : Int) + 1 := by omega
            have hx3 : (j : Int) + 1 - 1 = (j : Int) := by omega
            have hx4 : (j : Int) < (nb : Int) := by omega
            clear hMI hLb hla hgd hN hs2 hla1 K1 K2 K3 K4 hN0 hN1 hs1 hmi2 hthl hk4 bxB byB blB hNb hc0 hcn hcl hcb r1 r2 r3 r4 hy0 hth hbf hd0 by3 ky3 by4 ky4 bl4 hn0
            subst hNn
            clear HNs hj
            go_wp2_with (first | (at_builtin; refine wpList_append_eq rfl _ _ 52 52 rfl _ _ _ _ rfl rfl (unhide HA1) ?_) | (at_builtin; refine wpList_append_eq rfl _ _ 53 53 rfl _ _ _ _ rfl rfl (unhide HA2) ?_))
            go_meet
            case rel => exact ⟨nb + 1, k5, k6, a5, a6, by omega, rfl, rfl, FIN⟩
      obtain ⟨nb2, kb2, kt2, ab2, at2, hnb2, rfl, rfl, H3⟩ := hcut
      clear HK1
      obtain ⟨C, hC⟩ : ∃ C, decide ((e0.kind = 2 ∨ e0.kind = 3) ∧ 1 ≤ e0.num ∧ e0.num ≤ (nb2 : Int)) = C := ⟨_, rfl⟩
      have HCc := hide hC
      obtain ⟨Lb2, Th2, K5, hLb2, hmA, hmB⟩ := unhide H3
      have kk0 : wc.cell? ⟨q, 0, none⟩ = some (.int .i64 e0.kind) := K5.bo.cell 0 _ rfl
      have kk1 : wc.cell? ⟨q, 1, none⟩ = some (.int .i64 e0.num) := K5.bo.cell 1 _ rfl
      have HK5 := hide (And.intro K5 (And.intro hLb2 (And.intro hmA hmB)))
      clear H3 K5 hLb2 hmA hmB hC
      obtain ⟨V2, hV2⟩ : ∃ V2, V2 = wc := ⟨_, rfl⟩
      subst hV2
      go_upto_region 24 with fail
      go_cut [114] from 95 to 114 (fun v wx => v = .bool C ∧ V2 = wx)
      case first =>
        by_cases h2 : e0.kind = 2
        · have h3 : e0.kind ≠ 3 := by omega
          by_cases c1 : 1 ≤ e0.num
          · by_cases c2 : e0.num ≤ (nb2 : Int)
            · have d1 := c1
              have e : C = true := by rw [← unhide HCc]; exact decide_eq_true (by omega)
              have b2 : (e0.kind == 2) = true := by simpa using h2
              clear h2 h3
              subst e
              go_wp2
              go_meet
              case rel => exact ⟨rfl, rfl⟩
            · have d1 := c1
              have e : C = false := by rw [← unhide HCc]; exact decide_eq_false (by omega)
              have b2 : (e0.kind == 2) = true := by simpa using h2
              clear h2 h3
              subst e
              go_wp2
              go_meet
              case rel => exact ⟨rfl, rfl⟩
          · have d1 := c1
            have e : C = false := by rw [← unhide HCc]; exact decide_eq_false (by omega)
            have b2 : (e0.kind == 2) = true := by simpa using h2
            clear h2 h3
            subst e
            go_wp2
            go_meet
            case rel => exact ⟨rfl, rfl⟩
        by_cases h3 : e0.kind = 3
        · by_cases c1 : 1 ≤ e0.num
          · by_cases c2 : e0.num ≤ (nb2 : Int)
            · have d1 := c1
              have e : C = true := by rw [← unhide HCc]; exact decide_eq_true (by omega)
              have b2 : (e0.kind == 2) = false := by rw [beq_eq_false_iff_ne]; exact h2
              have b3 : (e0.kind == 3) = true := by simpa using h3
              clear h2 h3
              subst e
              go_wp2
              go_meet
              case rel => exact ⟨rfl, rfl⟩
            · have d1 := c1
              have e : C = false := by rw [← unhide HCc]; exact decide_eq_false (by omega)
              have b2 : (e0.kind == 2) = false := by rw [beq_eq_false_iff_ne]; exact h2
              have b3 : (e0.kind == 3) = true := by simpa using h3
              clear h2 h3
              subst e
              go_wp2
              go_meet
              case rel => exact ⟨rfl, rfl⟩
          · have d1 := c1
            have e : C = false := by rw [← unhide HCc]; exact decide_eq_false (by omega)
            have b2 : (e0.kind == 2) = false := by rw [beq_eq_false_iff_ne]; exact h2
            have b3 : (e0.kind == 3) = true := by simpa using h3
            clear h2 h3
            subst e
            go_wp2
            go_meet
            case rel => exact ⟨rfl, rfl⟩
        · have d1 := h3
          have e : C = false := by rw [← unhide HCc]; exact decide_eq_false (by omega)
          have b2 : (e0.kind == 2) = false := by rw [beq_eq_false_iff_ne]; exact h2
          have b3 : (e0.kind == 3) = false := by rw [beq_eq_false_iff_ne]; exact h3
          clear h2 h3
          subst e
          go_wp2
          go_meet
          case rel => exact ⟨rfl, rfl⟩
      obtain ⟨rfl, rfl⟩ := hcut
      rename_i hKx
      refine hKx _ _ ?_
      clear hKx
      go_cut [119] from 115 to 119 (fun u wx => Hid (∃ Th3, MK W q e0 S1 wx b s2 (.slice ab2 nb2 kb2) (.slice at2 nb2 kt2) Lb2 Th3 ∧ MI s2 (Lb2.map Prod.fst) Th3))
      case first =>
        obtain ⟨K5, hLb2, hmA, hmB⟩ := unhide HK5
        obtain ⟨hMI, hLb, hla, hgd⟩ := unhide HM
        obtain ⟨hN, hs2⟩ := unhide HNs
        cases C with
        | true =>
          have hh := of_decide_eq_true (unhide HCc)
          obtain ⟨j, hj⟩ : ∃ j : Nat, e0.num = (j : Int) + 1 := ⟨(e0.num - 1).toNat, by omega⟩
          have hjl : j < nb2 := by omega
          have hmi := (hmA hh.1).took hgd hh.1 hj (by rw [List.length_map, hLb2]; exact hjl)
          rw [hs2] at hmi
          obtain ⟨t, ht⟩ : ∃ t, Th2[j]? = some t := ⟨_, List.getElem?_eq_getElem (by rw [(hmA hh.1).tl, List.length_map, hLb2]; exact hjl)⟩
          obtain ⟨g, eg, cg, fg, K6⟩ := K5.off ht
          subst eg
          have FIN : Hid (∃ Th3, MK W q e0 S1 (V2.setCell ⟨g, j, none⟩ (.bool false)) b s2 (.slice ab2 nb2 kb2) (.slice (some ⟨g, 0, none⟩) nb2 kt2) Lb2 Th3 ∧ MI s2 (Lb2.map Prod.fst) Th3) := hide ⟨_, K6, hmi⟩
          rw [hj] at kk1
          have hx3 : (j : Int) + 1 - 1 = (j : Int) := by omega
          have hx4 : (j : Int) < (nb2 : Int) := by omega
          clear K5 hLb2 hmA hmB hMI hLb hla hgd hN hs2 hh hmi ht K6 hj HK5 HCc
          go_wp2
          go_meet
          case rel => exact FIN
        | false =>
          have hh := of_decide_eq_false (unhide HCc)
          have hmi : MI s2 (Lb2.map Prod.fst) Th2 := by
            by_cases hk : e0.kind = 2 ∨ e0.kind = 3
            · have := (hmA hk).took0 (x := e0) hgd hk (by rw [List.length_map, hLb2]; exact fun e => hh ⟨hk, e⟩)
              rw [hs2] at this
              exact this
            · exact hmB hk
          have FIN : Hid (∃ Th3, MK W q e0 S1 V2 b s2 (.slice ab2 nb2 kb2) (.slice at2 nb2 kt2) Lb2 Th3 ∧ MI s2 (Lb2.map Prod.fst) Th3) := hide ⟨_, K5, hmi⟩
          clear K5 hLb2 hmA hmB hMI hLb hla hgd hN hs2 hh hmi HK5 HCc
          go_wp2
          go_meet
          case rel => exact FIN
      have hLb2 := (unhide HK5).2.1
      obtain ⟨Th3, K6, hMI3⟩ := unhide hcut
      have HLb2 := hide hLb2
      obtain ⟨m2, hm2⟩ : ∃ m, s2.ls.length = m := ⟨_, rfl⟩
      have hm2b := K6.kn.nl.gd.len'
      rw [hm2] at hm2b
      have HCo := hide (Copies_in K6.kn.nl)
      unfold CopA at HCo
      rw [hm2] at HCo
      have HK6 := hide K6
      have HMI3 := hide hMI3
      have Hm2 := hide hm2
      clear hcut HK5 hLb2 K6 hMI3 hm2 HM HNs HCc kk0 kk1
      go_wp2_with fail
      refine (unhide HCo).mono ?_
      rintro e V4 ⟨a7, k7, L, rfl, hL, hCL, hb7⟩
      have K7 := (unhide HK6).below hb7
      have HRc := hide (hCL.rcp (CL.len K7.kn.nl.gd hL))
      have HL := hide hL
      have HK7 := hide K7
      clear HCo HK6 K7 hCL hL hb7
      go_wp2
      go_loopw [11, 12] (fun kv jv wr2 => ∃ j kk : Nat, j ≤ nb2 ∧ kk ≤ m2 ∧ kv = .int .i64 (kk : Nat) ∧ jv = .int .i64 (j : Nat) ∧ Hid (kk = cN s2.ls (j : Nat) ∧ Below V4.heap.size V4 wr2)) (fun _ jv _ => nb2 - (RowKit.intOf jv).toNat)
      case atStart => exact ⟨0, 0, Nat.zero_le _, Nat.zero_le _, rfl, rfl, hide ⟨(cN_zero (fun c hc => by have := ((unhide HK7).kn.nl.gd.le c hc).1; omega)).symm, Below.refl _ _⟩⟩
      case round =>
        obtain ⟨j, kk, hj, hkk, rfl, rfl, HJ⟩ := hrel
        by_cases hjlt : j < nb2
        · have hjlt' : (j : Int) < (nb2 : Int) := by omega
          have K7 := unhide HK7
          have M3 := unhide HMI3
          have hgd2 := K7.kn.nl.gd
          have ht := M3.th j (by rw [List.length_map, unhide HLb2]; exact hjlt)
          obtain ⟨g8, e8, _, t8, _, _⟩ := K7.bt.at ht
          have t8' := cell_below t8 (unhide HJ).2
          subst e8
          cases hf : fnd s2.ls ((j : Int) + 1) with
          | none =>
            rw [hf] at t8'
            simp only [Option.isSome_none] at t8'
            have HN := hide (show kk = cN s2.ls ((j + 1 : Nat) : Int) by rw [(unhide HJ).1, Int.natCast_add, Int.natCast_one, cN_none (fun c hc => fnd_none hf c hc)])
            have HB := hide (unhide HJ).2
            clear hf ht t8 K7 M3 hgd2 HJ
            go_wp2
            go_roundw
            case rel => exact ⟨j + 1, kk, by omega, hkk, rfl, by go_num, hide ⟨unhide HN, unhide HB⟩⟩
            case measure => show nb2 - ((j : Int) + 1).toNat < nb2 - ((j : Nat) : Int).toNat; omega
          | some d =>
            rw [hf] at t8'
            simp only [Option.isSome_some] at t8'
            have hdn := fnd_num hf
            have hdm := fnd_mem hf
            obtain ⟨hat, hnx⟩ := cN_at hgd2.ris hdm hdn
            rw [← (unhide HJ).1] at hat
            have hkm : kk < m2 := by rw [← unhide Hm2]; exact (List.getElem?_eq_some_iff.1 hat).1
            have hkm' : (kk : Int) < (m2 : Int) := by omega
            have hkm2 : ¬ (m2 : Int) ≤ (kk : Int) := by omega
            obtain ⟨y, hy, hyc⟩ : ∃ y, L[kk]? = some y ∧ y.1 = d := by
              rw [← unhide HL, List.getElem?_map] at hat
              cases hy : L[kk]? with
              | none => rw [hy] at hat; cases hat
              | some y => rw [hy] at hat; exact ⟨y, rfl, Option.some.inj hat⟩
            obtain ⟨d', vd⟩ := y
            simp only at hyc
            subst hyc
            have rc := (unhide HRc).below (unhide HJ).2
            obtain ⟨g9, o9, e9, _, w0, w1, w2, w3, w4, w5⟩ := rc.at hy
            obtain ⟨rd, ld⟩ := rc.dat _ (List.mem_of_getElem? hy)
            simp only at rd ld w0 w1 w2 w3 w4 w5
            obtain ⟨ad, kd, ed⟩ := rd.form
            subst ed e9
            obtain ⟨cb, hcb, r1, r2, r3, r4⟩ := M3.bk d' hdm
            rw [show (d'.num - 1).toNat = j by omega, List.getElem?_map] at hcb
            obtain ⟨y0, hy0, hy0c⟩ : ∃ y0, Lb2[j]? = some y0 ∧ y0.1 = cb := by
              cases hy : Lb2[j]? with
              | none => rw [hy] at hcb; cases hcb
              | some y => rw [hy] at hcb; exact ⟨y, rfl, Option.some.inj hcb⟩
            obtain ⟨cb', v0⟩ := y0
            simp only at hy0c
            subst hy0c
            obtain ⟨gb, ob, eb, x0, x1, x2, x3, x4, x5⟩ := K7.br.at hy0
            have hd0 := K7.br.dat _ (List.mem_of_getElem? hy0)
            simp only at hd0 x0 x1 x2 x3 x4 x5
            obtain ⟨a0, k0, e00⟩ := hd0.1.form
            subst e00 eb
            rw [r1] at x1
            rw [r2] at x2
            rw [r4] at x4
            rw [r3] at x3 hd0
            rw [hdn] at w0
            have hBe := bnext K7.kn.bel (unhide HJ).2
            have y0' := cell_below x0 (unhide HJ).2
            have y1' := cell_below x1 (unhide HJ).2
            have y2' := cell_below x2 (unhide HJ).2
            have y3' := cell_below x3 (unhide HJ).2
            have y4' := cell_below x4 (unhide HJ).2
            have y5' := cell_below x5 (unhide HJ).2
            have okd := M3.ok d' hdm
            have HN := hide (show kk + 1 = cN s2.ls ((j + 1 : Nat) : Int) by rw [Int.natCast_add, Int.natCast_one, hnx, (unhide HJ).1])
            have HB := hide (unhide HJ).2
            obtain ⟨nd, hnd⟩ : ∃ nd, d'.dat.length = nd := ⟨_, rfl⟩
            obtain ⟨nc, hnc⟩ : ∃ nc, d'.cl.length = nc := ⟨_, rfl⟩
            rw [hnd] at w3
            rw [hnc] at y3'
            obtain ⟨X8, hX8⟩ : ∃ X, wr.alloc (.cells #[.int .i64 0, .int .i64 0, .int .i64 0, .slice none 0 0, .int .i64 0, .bool false] 44) = X := ⟨_, rfl⟩
            obtain ⟨Y8, hY8⟩ : ∃ Y, (((((X8.setCell ⟨wr.heap.size, 0, none⟩ (.int .i64 ((j : Int) + 1))).setCell ⟨wr.heap.size, 1, none⟩ (.int .i64 d'.frm)).setCell ⟨wr.heap.size, 2, none⟩ (.int .i64 d'.to)).setCell ⟨wr.heap.size, 3, none⟩ (.slice ad nd kd)).setCell ⟨wr.heap.size, 4, none⟩ (.int .i64 d'.sent)).setCell ⟨wr.heap.size, 5, none⟩ (.bool d'.bad) = Y := ⟨_, rfl⟩
            obtain ⟨bxC, byC, blC⟩ := new6 hX8 _ _ _ _ _ _ hY8
            have Cz0 := bxC.cell 0 (.int .i64 0) rfl
            have Cf0 := bxC.frozen 0
            have Cz1 := bxC.cell 1 (.int .i64 0) rfl
            have Cf1 := bxC.frozen 1
            have Cz2 := bxC.cell 2 (.int .i64 0) rfl
            have Cf2 := bxC.frozen 2
            have Cz3 := bxC.cell 3 (.slice none 0 0) rfl
            have Cf3 := bxC.frozen 3
            have Cz4 := bxC.cell 4 (.int .i64 0) rfl
            have Cf4 := bxC.frozen 4
            have Cz5 := bxC.cell 5 (.bool false) rfl
            have Cf5 := bxC.frozen 5
            have Ct0 := byC.cell 0 (.int .i64 ((j : Int) + 1)) rfl
            have Ct1 := byC.cell 1 (.int .i64 d'.frm) rfl
            have Ct2 := byC.cell 2 (.int .i64 d'.to) rfl
            have Ct3 := byC.cell 3 (.slice ad nd kd) rfl
            have Ct4 := byC.cell 4 (.int .i64 d'.sent) rfl
            have Ct5 := byC.cell 5 (.bool d'.bad) rfl
            have y08 := cell_below y0' blC
            have y18 := cell_below y1' blC
            have y28 := cell_below y2' blC
            have y38 := cell_below y3' blC
            have y48 := cell_below y4' blC
            have y58 := cell_below y5' blC
            obtain ⟨X9, hX9⟩ : ∃ X, Y8.alloc (.cells #[.int .i64 0, .int .i64 0, .int .i64 0, .slice none 0 0, .int .i64 0, .bool false] 44) = X := ⟨_, rfl⟩
            obtain ⟨Y9, hY9⟩ : ∃ Y, (((((X9.setCell ⟨Y8.heap.size, 0, none⟩ (.int .i64 cb'.num)).setCell ⟨Y8.heap.size, 1, none⟩ (.int .i64 d'.frm)).setCell ⟨Y8.heap.size, 2, none⟩ (.int .i64 d'.to)).setCell ⟨Y8.heap.size, 3, none⟩ (.slice a0 nc k0)).setCell ⟨Y8.heap.size, 4, none⟩ (.int .i64 d'.sent)).setCell ⟨Y8.heap.size, 5, none⟩ (.bool cb'.bad) = Y := ⟨_, rfl⟩
            obtain ⟨bxD, byD, blD⟩ := new6 hX9 _ _ _ _ _ _ hY9
            have Dz0 := bxD.cell 0 (.int .i64 0) rfl
            have Df0 := bxD.frozen 0
            have Dz1 := bxD.cell 1 (.int .i64 0) rfl
            have Df1 := bxD.frozen 1
            have Dz2 := bxD.cell 2 (.int .i64 0) rfl
            have Df2 := bxD.frozen 2
            have Dz3 := bxD.cell 3 (.slice none 0 0) rfl
            have Df3 := bxD.frozen 3
            have Dz4 := bxD.cell 4 (.int .i64 0) rfl
            have Df4 := bxD.frozen 4
            have Dz5 := bxD.cell 5 (.bool false) rfl
            have Df5 := bxD.frozen 5
            have Dt0 := byD.cell 0 (.int .i64 cb'.num) rfl
            have Dt1 := byD.cell 1 (.int .i64 d'.frm) rfl
            have Dt2 := byD.cell 2 (.int .i64 d'.to) rfl
            have Dt3 := byD.cell 3 (.slice a0 nc k0) rfl
            have Dt4 := byD.cell 4 (.int .i64 d'.sent) rfl
            have Dt5 := byD.cell 5 (.bool cb'.bad) rfl
            have Cy0 := cell_below Ct0 blD
            have Cy1 := cell_below Ct1 blD
            have Cy2 := cell_below Ct2 blD
            have Cy3 := cell_below Ct3 blD
            have Cy4 := cell_below Ct4 blD
            have Cy5 := cell_below Ct5 blD
            have HBY := hide (bnext blC blD)
            have HCt : Hid (∀ V, Below Y9.heap.size Y9 V → V.cell? ⟨wr.heap.size, 5, none⟩ = some (.bool d'.bad) ∧ V.cell? ⟨wr.heap.size, 3, none⟩ = some (.slice ad nd kd) ∧ V.cell? ⟨Y8.heap.size, 3, none⟩ = some (.slice a0 nc k0)) := fun V hV => ⟨cell_below Cy5 hV, cell_below Cy3 hV, cell_below Dt3 hV⟩
            have rdY := rd.below (bnext blC blD)
            have rbY := hd0.1.below (bnext hBe (bnext blC blD))
            have HBytes := hide (lbytes_in _ _ d'.dat d'.cl Y9 rdY rbY (by omega) (by have := hd0.2; omega))
            rw [hnd, hnc] at HBytes
            have HApt : Hid (d'.bad = true → Calls Try.prog 26 #[.slice ad nd kd, .slice a0 nc k0] Y9 fun e W => e = .returned (.bool true) ∧ Below Y9.heap.size Y9 W) := fun hb => by
              have := apart_in d'.dat d'.cl ad a0 kd k0 Y9 rdY rbY (by omega) (by have := hd0.2; omega) (by rw [dat_bad hb]; exact okd hb)
              rw [hnd, hnc] at this
              exact this
            have hq0 : ((j : Int) + 1 != (j : Int) + 1) = false := by simp
            cases hbd : d'.bad with
            | false =>
              rw [show decide (d'.dat = d'.cl) = true from decide_eq_true (dat_ok hbd)] at HBytes
              rw [hbd] at w5
              rw [hbd] at Ct5 Cy5 hY8
              clear HApt hat hnx hy hcb r1 r2 r3 r4 hy0 hd0 x0 x1 x2 x3 x4 x5 okd rdY rbY rc rd ld K7 M3 hgd2 ht t8 HJ hdn hdm hf bxC byC blC bxD byD blD hnd hnc hBe
              go_wp2_with fail
              refine (unhide HBytes).mono ?_
              rintro e V5 ⟨rfl, hb⟩
              have HB9 := hide (bnext (unhide HB) (bnext (unhide HBY) hb))
              have ct := unhide HCt V5 hb
              obtain ⟨ct5, ct3, dt3⟩ := ct
              rw [hbd] at ct5
              clear HBytes hb HBY HCt hbd Cz0 Cf0 Cz1 Cf1 Cz2 Cf2 Cz3 Cf3 Cz4 Cf4 Cz5 Cf5 Ct0 Ct1 Ct2 Ct3 Ct4 Ct5 Dz0 Df0 Dz1 Df1 Dz2 Df2 Dz3 Df3 Dz4 Df4 Dz5 Df5 Dt0 Dt1 Dt2 Dt3 Dt4 Dt5 Cy0 y08 y0' w0 Cy1 y18 y1' w1 Cy2 y28 y2' w2 Cy3 y38 y3' w3 Cy4 y48 y4' w4 Cy5 y58 y5' w5
              go_wp2
              go_roundw
              case rel => exact ⟨j + 1, kk + 1, by omega, by omega, by go_num, by go_num, hide ⟨unhide HN, unhide HB9⟩⟩
              case measure => show nb2 - ((j : Int) + 1).toNat < nb2 - ((j : Nat) : Int).toNat; omega
            | true =>
              have HAp := hide (unhide HApt hbd)
              rw [hbd] at w5
              rw [hbd] at Ct5 Cy5 hY8
              clear HApt HBytes hat hnx hy hcb r1 r2 r3 r4 hy0 hd0 x0 x1 x2 x3 x4 x5 okd rdY rbY rc rd ld K7 M3 hgd2 ht t8 HJ hdn hdm hf bxC byC blC bxD byD blD hnd hnc hBe
              go_wp2_with fail
              refine (unhide HAp).mono ?_
              rintro e V5 ⟨rfl, hb⟩
              have HB9 := hide (bnext (unhide HB) (bnext (unhide HBY) hb))
              clear HAp hb HBY HCt hbd Cz0 Cf0 Cz1 Cf1 Cz2 Cf2 Cz3 Cf3 Cz4 Cf4 Cz5 Cf5 Ct0 Ct1 Ct2 Ct3 Ct4 Ct5 Dz0 Df0 Dz1 Df1 Dz2 Df2 Dz3 Df3 Dz4 Df4 Dz5 Df5 Dt0 Dt1 Dt2 Dt3 Dt4 Dt5 Cy0 y08 y0' w0 Cy1 y18 y1' w1 Cy2 y28 y2' w2 Cy3 y38 y3' w3 Cy4 y48 y4' w4 Cy5 y58 y5' w5
              go_wp2
              go_roundw
              case rel => exact ⟨j + 1, kk + 1, by omega, by omega, by go_num, by go_num, hide ⟨unhide HN, unhide HB9⟩⟩
              case measure => show nb2 - ((j : Int) + 1).toNat < nb2 - ((j : Nat) : Int).toNat; omega
        · obtain rfl : j = nb2 := by omega
          have hjlt' : ¬ (j : Int) < (j : Int) := by omega
          have K8 := (unhide HK7).below (unhide HJ).2
          have hkm : kk = m2 := by
            rw [(unhide HJ).1, ← unhide Hm2]
            refine cN_all (fun c hc => ?_)
            have h1 := (K8.kn.nl.gd.le c hc).2
            have h2 := (unhide HMI3).la
            rw [List.length_map, unhide HLb2] at h2
            omega
          subst hkm
          have FIN : Hid (∃ S s Lb Th, M0 W S wr b s (.slice ab2 j kb2) (.slice at2 j kt2) Lb Th ∧ MI s (Lb.map Prod.fst) Th ∧ Lb.length = j) := hide ⟨_, _, _, _, K8.m0, unhide HMI3, unhide HLb2⟩
          clear K8 HJ HK7
          go_wp2
          go_roundw
          case rel => exact ⟨i + 1, j, kb2, kt2, ab2, at2, by omega, by omega, rfl, rfl, by go_num, FIN⟩
          case measure => show n - ((i : Int) + 1).toNat < n - ((i : Nat) : Int).toNat; omega
    · obtain rfl : i = n := by omega
      have hlt' : ¬ (i : Int) < (i : Int) := by omega
      obtain ⟨S, s, Lb, Th, J, _⟩ := unhide HI
      have HBe := hide J.kn.bel
      have HKn := hide (known_in wr)
      clear HI J
      go_wp2_with fail
      refine (unhide HKn).mono ?_
      rintro e V6 ⟨rfl, hb⟩
      have HB := hide (bnext (unhide HBe) hb)
      clear HKn hb HBe
      go_wp2
      go_ret
      exact ⟨rfl, unhide HB⟩

theorem own : ownKnob Try.prog.godebug = none := by kernel_rfl
theorem laidOut2 : laidOutB Try.prog = true := by kernel_rfl

set_option maxRecDepth 100000 in
theorem lifted (os : Os) (started : os.Started) (H : Type) (enc : TypeId × Value → H) :
    ReturnsInHanded {} Try.checked os 6 .any (Rows.netMeansSpec.pre6 enc Try.prog Try.f6 Rows.netMeansRow.domain false) (Rows.netMeansSpec.post enc Try.prog Try.f6 false true false false) := by
  refine returnsInHanded_of_change (C := Try.checked) own started (by kernel_rfl) Try.func6
    (ChangeSpec.witness6 (enc := enc) (C := Try.checked) false ⟨#[], #[.slice none 0 0], []⟩ 8 (by kernel_rfl) (by kernel_rfl) (by kernel_rfl) (by kernel_rfl)) ?_
  intro W base args ds gs before hval0 hW hcnd _
  have hval : ∀ (j : Nat) t v, Try.f6.params[j]? = some t → args[j]? = some v → Value.okWide Try.prog W .any base t v := hval0
  have hW' := hW
  obtain ⟨p, q, hA0, hV, rfl, hfz, hnd⟩ := hW
  have hA : DataW.TrodAll enc Try.prog W 0 (fun _ => true) true Try.f6.params.toList args.toList ds p := hA0
  rw [Try.params6] at hA hval
  obtain ⟨v0, vs0, d0, ds0, p0, q0, hargs, rfl, rfl, h0, r0⟩ := trodAll_cons hA
  obtain ⟨rfl, rfl, rfl⟩ := trodAll_nil r0
  obtain rfl : args = #[v0] := by cases args; simp_all
  obtain ⟨rfl, rfl⟩ := trodVars_none hV
  obtain ⟨a0, len0, cap0, rfl⟩ := okWide_slice Try.underlying22 (hval 0 22 v0 rfl rfl)
  have k0 := h0
  have lt0 : ∀ x ∈ p0, x.block < W.heap.size := by obtain ⟨m, hm⟩ := k0; exact DataW.trod_lt m _ _ _ hm
  obtain ⟨z0, w0⟩ : ∃ l : List Stp, RSt W (.slice a0 len0 cap0) l ∧ l.length = len0 ∧ len0 ≤ maxLen ∧ ∀ e ∈ l, StW W e := by
    obtain ⟨fuel, hf⟩ := h0
    simp only [Value.cells] at hf
    exact open_steps hf
  clear hA0 hval0
  refine (walk a0 len0 cap0 z0 W w0).mono fun e W' ⟨he, bel⟩ => ?_
  subst he
  exact ⟨_, rfl, _, _, _, [], _, [], hW', trodAll_mk1 (shut_bool Try.underlying4 _), (trodAll_cons_mk (Below.trod laidOut2 (by kernel_rfl) (of_decide_eq_true (by kernel_rfl)) k0 bel lt0) trodAll_mk0), rfl, bel.frame _, fun h => by cases h⟩

theorem over : Rows.netMeansRow.holds Try.pinned (OpenSpec.ofChange Rows.netMeansSpec) :=
  OpenClaim.holds_of_wide 6 Try.f6 rfl rfl rfl rfl rfl rfl rfl ⟨rfl, rfl, rfl, rfl, rfl⟩ rfl rfl rfl rfl rfl (by kernel_rfl) Try.func6 (by kernel_rfl)
    (of_decide_eq_true (by kernel_rfl)) (by unfold Func.isWrapper; first | (rw [if_pos (by decide +kernel)]; kernel_rfl) | (rw [if_neg (by decide +kernel)]; exact ⟨rfl, rfl⟩))
    (fun os started H enc _ => lifted os started H enc)

end LNetMeans

theorem netMeans_holds : Rows.NetMeansSaid := LNetMeans.over

end Go.Proofs.Ytfminifjnjfocaa
