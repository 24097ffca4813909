/-
  Chapter 20's law NetApart returns true for every script, every number and every step, and leaves its arguments as they were; no condition.
-/
import Derived.Test.YtfminifjnjfocaaRows
import Derived.WalkKit
import Derived.ProofKit
import Derived.OpenShut
import Derived.ShutString
import Derived.ChangeOld
import Derived.Below
import Derived.Test.YtfminifjnjfocaaZNZ
import Derived.Deep.CutRange
set_option linter.unusedVariables false
set_option linter.unusedSimpArgs false
namespace Go.Proofs.Ytfminifjnjfocaa
namespace LNetApart
open Go.ChangeShapes Go.WideShapes Go.ChangeAt Go.RowKit Go.Lib
open Go.ChangeMaps (open_string shut_string)

open Go.RowKit Go.Lib
set_option maxRecDepth 100000 in
set_option maxHeartbeats 16000000 in
theorem walk (a : Option Addr) (len cap : Nat) (z : List Stp) (k : Int) (x : Stp) (W : World) (h : RSt W (.slice a len cap) z ∧ z.length = len ∧ len ≤ maxLen ∧ ∀ e ∈ z, StW W e) (hk : (Lit.int .i64 k).wf = true) (hx : StW W x) : Calls Try.prog 7 #[.slice a len cap, .int .i64 k, .agg (stC x)] W fun e W' => e = .returned (.bool true) ∧ Below W.heap.size W W' := by
  obtain ⟨hR, hl, hm, hS⟩ := h
  have Hk := hide (show in64 k from wf64' hk)
  clear hk
  obtain ⟨av, cv, ev⟩ := hx.fd
  obtain ⟨M, hM⟩ : ∃ M, x.dat.length = M := ⟨_, rfl⟩
  have Hl := hide hl
  have HR := hide hR
  have HSt := hide hS
  have HX := hide hx
  subst hl
  obtain ⟨X0, hX0⟩ : ∃ X0, W.alloc (.cells (stC x) 32) = X0 := ⟨_, rfl⟩
  have b0 : Below W.heap.size W X0 := by rw [← hX0]; exact ballc (Below.refl _ _) _
  have bx : Bx X0 W.heap.size 32 (stC x) := by rw [← hX0]; exact Bx.new _ _ _
  have Hz0 : Hid (X0.heap.size = W.heap.size + 1) := hide (by rw [← hX0]; simp)
  have y5 : X0.cell? ⟨W.heap.size, 5, none⟩ = some (.slice av M cv) := by rw [← hM, ← ev]; exact bx.cell 5 x.vd rfl
  have HMu := hide (much_in z a cap X0 (hR.below b0) (fun e he => (hS e he).below b0) (by unfold maxLen at hm; omega))
  have HK := hide (known_in X0)
  have HN := hide (New_in X0)
  have HB0 := hide b0
  have Hbx := hide bx
  have HevM := hide (And.intro ev hM)
  obtain ⟨n, hn⟩ : ∃ n, z.length = n := ⟨_, rfl⟩
  have Hn := hide hn
  unfold stC at hX0
  unfold stC
  rw [ev, hM] at hX0 ⊢
  rw [hn] at HMu ⊢
  clear hn bx b0 hR hS hx ev hM hm Hl
  go_enter Try.func7, Try.ntmps7
  go_wp2_with fail
  refine (unhide HMu).mono ?_
  rintro e W1 ⟨R, rfl, hsm, rfl⟩
  clear HMu
  by_cases hbig : R = true ∨ 60000 < M
  · have hw : ∀ (R : Bool), Hid (R = true ∨ 60000 < M) → True := fun _ _ => trivial
    clear hsm HN
    cases R with
    | true =>
      go_wp2_with fail
      refine (unhide HK).mono ?_
      rintro e W2 ⟨rfl, hb⟩
      have HB := hide (bnext (unhide HB0) hb)
      clear hb HK
      go_wp2
      go_ret
      exact ⟨rfl, unhide HB⟩
    | false =>
      have hg : 60000 < M := by simpa using hbig
      have hg' : (60000 : Int) < (M : Int) := by omega
      go_wp2_with fail
      refine (unhide HK).mono ?_
      rintro e W2 ⟨rfl, hb⟩
      have HB := hide (bnext (unhide HB0) hb)
      clear hb HK
      go_wp2
      go_ret
      exact ⟨rfl, unhide HB⟩
  have hR0 : R = false := by cases R with | false => rfl | true => exact absurd (.inl rfl) hbig
  subst hR0
  have hM6 : M ≤ 60000 := by simpa using hbig
  have hg' : ¬ (60000 : Int) < (M : Int) := by omega
  have HSm := hide (hsm rfl)
  clear hbig hsm HK
  have hn2 : n ≤ 200 := by have := (unhide HSm).1; rw [unhide Hn] at this; exact this
  go_wp2_with fail
  refine (unhide HN).mono ?_
  rintro e W2 ⟨rfl, hnl, hb⟩
  have J0 : Hid (∃ S, RJ W W.heap.size x S W2 X0.heap.size zerS) := hide ⟨_, KN.new W (unhide HB0) hnl hb, (unhide Hbx).below hb, fun e => by have := e.1; have := unhide Hz0; omega⟩
  generalize hbb : X0.heap.size = b at *
  clear HN hnl hb Hbx hbb y5
  go_wp2
  go_loopw [8] (fun iv wr => ∃ i : Nat, i ≤ n ∧ iv = .int .i64 (i : Nat) ∧ Hid (∃ S s, RJ W W.heap.size x S wr b s)) (fun iv _ => n - (RowKit.intOf iv).toNat)
  case atStart =>
    obtain ⟨S, h⟩ := unhide J0
    exact ⟨0, Nat.zero_le _, rfl, hide ⟨S, _, h⟩⟩
  case round =>
    obtain ⟨i, hi, rfl, HI⟩ := hrel
    clear J0
    by_cases hlt : i < n
    · have hlt' : (i : Int) < (n : Int) := by omega
      obtain ⟨S, s, J⟩ := unhide HI
      obtain ⟨e0, he0⟩ : ∃ e0, z[i]? = some e0 := ⟨_, List.getElem?_eq_getElem (by rw [unhide Hn]; exact hlt)⟩
      have hmem := List.mem_of_getElem? he0
      have rr := (unhide HR).below J.kn.bel
      rw [show (Value.slice a z.length cap) = .slice a n cap by rw [unhide Hn]] at rr
      obtain ⟨bs, os, rfl, _, u0, u1, u2, u3, u4, u5⟩ := rr.at he0
      have HD := hide ((do_in J.kn.nl J.hp e0 ((unhide HSt e0 hmem).below J.kn.bel) (by have := (unhide HSm).2 e0 hmem; omega)).mono (fun e W h => J.call h))
      obtain ⟨ae, ce, ee⟩ := (unhide HSt e0 hmem).fd
      unfold stC at HD
      rw [ee] at u5 HD
      generalize e0.dat.length = ne at *
      clear J he0 hmem rr ee HI
      go_wp2_with fail
      refine (unhide HD).mono ?_
      rintro e W3 ⟨rfl, S', J', _⟩
      have HJ := hide J'
      clear HD J' u0 u1 u2 u3 u4 u5
      go_wp2
      go_roundw
      case rel => exact ⟨i + 1, by omega, by go_num, hide ⟨S', _, unhide HJ⟩⟩
      case measure => show n - ((i : Int) + 1).toNat < n - ((i : Nat) : Int).toNat; omega
    · obtain rfl : i = n := by omega
      have hlt' : ¬ (i : Int) < (i : Int) := by omega
      obtain ⟨S1, s, J1⟩ := unhide HI
      have HJ1 := hide J1
      have HD := hide ((Double_in J1.kn.nl J1.hp (unhide Hk)).mono (fun e W h => J1.call h))
      obtain ⟨N1, hN1⟩ : ∃ N, dblN s k = N := ⟨_, rfl⟩
      obtain ⟨E1, hE1⟩ : ∃ E, dblE s k = E := ⟨_, rfl⟩
      obtain ⟨s1, hs1⟩ : ∃ s1, dblS s k = s1 := ⟨_, rfl⟩
      rw [hN1, hE1, hs1] at HD
      unfold two at HD
      have HN1 := hide hN1
      have HE1 := hide hE1
      have Hs1 := hide hs1
      have HGd0 := hide J1.kn.nl.gd
      clear HI J1 HJ1 hN1 hE1 hs1 hlt hlt' hi
      go_wp2_with fail
      refine (unhide HD).mono ?_
      rintro e V1 ⟨rfl, S2, J2, _⟩
      obtain ⟨m, hm⟩ : ∃ m, s1.ls.length = m := ⟨_, rfl⟩
      have hmb := J2.kn.nl.gd.len'
      rw [hm] at hmb
      have HGd1 := hide J2.kn.nl.gd
      have HC1 := hide (Copies_in J2.kn.nl)
      have HJ2 := hide J2
      have Hm := hide hm
      unfold CopA at HC1
      rw [hm] at HC1
      clear HD J2 hm
      go_wp2_with fail
      refine (unhide HC1).mono ?_
      rintro e V2 ⟨a1, k1, L1, rfl, hL1, hC1, hb1⟩
      have J3 := (unhide HJ2).below hb1
      have hnb1 : ∀ i, blkC (.slice a1 m k1) L1 i → ¬ S2 i := fun i hi e => by have := (hC1.blt i hi).1; have := (unhide HJ2).hp i e; omega
      have hll : L1.length = m := by rw [← unhide Hm, ← hL1, List.length_map]
      -- x.Num = num
      have hWq : ∀ i, blkC (.slice a1 m k1) L1 i → i ≠ W.heap.size := fun i hi => by have := (hC1.blt i hi).1; have := (unhide HJ2).bo.lt; omega
      obtain ⟨Y1, hY1⟩ : ∃ Y, V2.setCell ⟨W.heap.size, 1, none⟩ (.int .i64 k) = Y := ⟨_, rfl⟩
      obtain ⟨x1, hx1⟩ : ∃ x1 : Stp, { x with num := k } = x1 := ⟨_, rfl⟩
      obtain ⟨J4, k4⟩ := J3.setb (x' := x1) (Nat.le_refl _) hY1 (by rw [← hx1]; rfl)
      have q1 := J3.y.2.1
      have f1 := J3.bo.frozen 1
      have hC4 := hC1.kpb k4 (fun i hi e => hWq i hi e)
      have HL1 := hide hL1
      have Hll := hide hll
      have Hx1 := hide hx1
      have q40 := J4.y.1
      have f40 := J4.bo.frozen 0
      have qA : Y1.cell? ⟨W.heap.size, 0, none⟩ = some (.int .i64 x.kind) := by rw [q40, ← hx1]
      clear q40
      obtain ⟨K2, hK2⟩ : ∃ K : Int, (if x.kind = 1 ∨ x.kind = 4 then 5 else x.kind) = K := ⟨_, rfl⟩
      obtain ⟨x2, hx2⟩ : ∃ x2 : Stp, { x1 with kind := K2 } = x2 := ⟨_, rfl⟩
      have BOX : Hid (∃ Y2, (Y2 = if x.kind = 1 ∨ x.kind = 4 then Y1.setCell ⟨W.heap.size, 0, none⟩ (.int .i64 5) else Y1) ∧ RJ W W.heap.size x2 S2 Y2 b s1 ∧ CL Y2 V1.heap.size (.slice a1 m k1) L1) := by
        by_cases hh : x.kind = 1 ∨ x.kind = 4
        · rw [if_pos hh] at hK2
          refine ⟨_, rfl, ?_⟩
          rw [if_pos hh]
          obtain ⟨J5, k5⟩ := J4.setb (x' := x2) (Nat.le_refl _) (j := 0) (v := .int .i64 5) rfl (by rw [← hx2, ← hK2]; rfl)
          exact ⟨J5, hC4.kpb k5 (fun i hi e => hWq i hi e)⟩
        · rw [if_neg hh] at hK2
          refine ⟨_, rfl, ?_⟩
          rw [if_neg hh]
          have e2 : x2 = x1 := by rw [← hx2, ← hK2, ← hx1]
          rw [e2]
          exact ⟨J4, hC4⟩
      obtain ⟨Y2, hY2, J5, hC5⟩ := unhide BOX
      have HY2 := hide hY2
      have hsm2 : x2.dat.length = M := by rw [← hx2, ← hx1]; exact (unhide HevM).2
      have hvd2 : x2.vd = .slice av M cv := by rw [← hx2, ← hx1, ← (unhide HevM).2]; exact (unhide HevM).1
      have hst2 : StW W x2 := by
        have h := unhide HX
        refine ⟨?_, ?_, ?_, ?_, ?_, ?_, ?_, ?_⟩
        · exact ⟨av, cv, by rw [hvd2, hsm2]⟩
        · rw [← hx2, ← hx1]; exact h.rd
        · rw [← hx2]; show in6 K2; rw [← hK2]; split; exact ⟨by decide, by decide⟩; exact h.kin
        · rw [← hx2, ← hx1]; exact unhide Hk
        · rw [← hx2, ← hx1]; exact h.frm
        · rw [← hx2, ← hx1]; exact h.to
        · rw [← hx2, ← hx1]; exact h.at_
        · rw [hsm2]; omega
      have HDo := hide ((do_in J5.kn.nl J5.hp x2 (hst2.below J5.kn.bel) (by omega)).mono (fun e W h => J5.call h))
      have hx2n : x2.num = k := by rw [← hx2, ← hx1]
      obtain ⟨g, hg⟩ := ApO.do s1 x2 (by rw [← hx2]; show K2 ≠ 1; rw [← hK2]; split; decide; rename_i hh; exact fun e => hh (.inl e)) (by rw [← hx2]; show K2 ≠ 4; rw [← hK2]; split; decide; rename_i hh; exact fun e => hh (.inr e))
      rw [hx2n] at hg
      obtain ⟨s2, hs2⟩ : ∃ s2, doS s1 x2 = s2 := ⟨_, rfl⟩
      rw [hs2] at HDo hg
      have HG := hide hg
      have q50 := J5.bo
      unfold stC at HDo q50
      rw [hvd2, show x2.kind = K2 by rw [← hx2], hx2n, show x2.frm = x.frm by rw [← hx2, ← hx1], show x2.to = x.to by rw [← hx2, ← hx1], show x2.at_ = x.at_ by rw [← hx2, ← hx1]] at HDo q50
      have t0 := q50.cell 0 (.int .i64 K2) rfl
      have t1 := q50.cell 1 (.int .i64 k) rfl
      have t2 := q50.cell 2 (.int .i64 x.frm) rfl
      have t3 := q50.cell 3 (.int .i64 x.to) rfl
      have t4 := q50.cell 4 (.int .i64 x.at_) rfl
      have t5 := q50.cell 5 (.slice av M cv) rfl
      have HC5 := hide (And.intro hC5 hnb1)
      have HK2 := hide hK2
      clear HC1 HJ2 J3 J4 k4 hC1 hb1 hWq hL1 hll hC4 J5 hC5 hnb1 hst2 hsm2 hvd2 hx2n hg hs2 hx1 hx2 BOX q50 hY2 hK2
      obtain ⟨KB, hKB⟩ : ∃ KB, decide (x.kind = 1 ∨ x.kind = 4) = KB := ⟨_, rfl⟩
      have hYK : Y2 = if KB = true then Y1.setCell ⟨W.heap.size, 0, none⟩ (.int .i64 5) else Y1 := by
        rw [unhide HY2, ← hKB]
        by_cases hh : x.kind = 1 ∨ x.kind = 4
        · rw [if_pos hh, decide_eq_true hh, if_pos rfl]
        · rw [if_neg hh, decide_eq_false hh, if_neg (by decide)]
      have HYK := hide hYK
      have HKB := hide hKB
      clear hYK hKB HY2
      go_upto_region 13 with fail
      go_cut [58] from 51 to 58 (fun v wx => v = .bool KB ∧ Y1 = wx)
      case first =>
        by_cases h1 : x.kind = 1
        · have e : KB = true := by rw [← unhide HKB]; exact decide_eq_true (.inl h1)
          have b1 : (x.kind == 1) = true := by simpa using h1
          clear h1
          subst e
          go_wp2
          go_meet
          case rel => exact ⟨rfl, rfl⟩
        have b1 : (x.kind == 1) = false := by rw [beq_eq_false_iff_ne]; exact h1
        by_cases h4 : x.kind = 4
        · have e : KB = true := by rw [← unhide HKB]; exact decide_eq_true (.inr h4)
          have b4 : (x.kind == 4) = true := by simpa using h4
          clear h1 h4
          subst e
          go_wp2
          go_meet
          case rel => exact ⟨rfl, rfl⟩
        · have e : KB = false := by rw [← unhide HKB]; exact decide_eq_false (by omega)
          have b4 : (x.kind == 4) = false := by rw [beq_eq_false_iff_ne]; exact h4
          clear h1 h4
          subst e
          go_wp2
          go_meet
          case rel => exact ⟨rfl, rfl⟩
      obtain ⟨rfl, rfl⟩ := hcut
      rename_i hKx
      refine hKx _ _ ?_
      clear hKx
      go_cut [59] from 59 to 59 (fun v wx => Y2 = wx)
      case first =>
        cases KB with
        | true =>
          have e : Y2 = Y1.setCell ⟨W.heap.size, 0, none⟩ (.int .i64 5) := by rw [unhide HYK, if_pos rfl]
          clear HYK HKB
          go_wp2
          go_meet
          case rel => first | exact e | exact ⟨e, trivial⟩
        | false =>
          have e : Y2 = Y1 := by rw [unhide HYK, if_neg (by decide)]
          clear HYK HKB
          go_wp2
          go_meet
          case rel => first | exact e | exact ⟨e, trivial⟩
      clear HYK HKB
      subst hcut
      clear qA f40 f1 q1
      go_wp2_with fail
      refine (unhide HDo).mono ?_
      rintro e V3 ⟨rfl, S3, J6, D6⟩
      have hC6 := (unhide HC5).1.dn D6 (unhide HC5).2
      obtain ⟨m2, hm2⟩ : ∃ m, s2.ls.length = m := ⟨_, rfl⟩
      have hm2b := J6.kn.nl.gd.len'
      rw [hm2] at hm2b
      have HC7 := hide (Copies_in J6.kn.nl)
      have HJ6 := hide J6
      have Hm2 := hide hm2
      unfold CopA at HC7
      rw [hm2] at HC7
      have HC6 := hide hC6.1
      clear HDo J6 D6 hC6 HC5 hm2 t0 t1 t2 t3 t4 t5
      go_wp2_with fail
      refine (unhide HC7).mono ?_
      rintro e V4 ⟨a2, k2, L2, rfl, hL2, hC7, hb7⟩
      have J7 := (unhide HJ6).below hb7
      have HJ7 := hide J7
      have R1 := hide (((unhide HC6).below hb7).rcp (CL.len (unhide HGd1) (unhide HL1)))
      have R2 := hide (hC7.rcp (CL.len J7.kn.nl.gd hL2))
      have HL2 := hide hL2
      clear HC7 HJ6 HC6 J7 hC7 hL2 hb7
      go_wp2
      go_loopw [13, 14] (fun kv iv wr => ∃ i kk : Nat, i ≤ m ∧ kk ≤ m2 ∧ kv = .int .i64 (kk : Nat) ∧ iv = .int .i64 (i : Nat) ∧ Hid (kk = cnt s1.ls g i ∧ Below V4.heap.size V4 wr)) (fun _ iv _ => m - (RowKit.intOf iv).toNat)
      case atStart => exact ⟨0, 0, Nat.zero_le _, Nat.zero_le _, rfl, rfl, hide ⟨rfl, Below.refl _ _⟩⟩
      case round =>
        obtain ⟨i, kk, hi, hkk, rfl, rfl, HI⟩ := hrel
        by_cases hlt : i < m
        · have hlt' : (i : Int) < (m : Int) := by omega
          have r1 := (unhide R1).below (unhide HI).2
          have r2 := (unhide R2).below (unhide HI).2
          obtain ⟨y, hy⟩ : ∃ y, L1[i]? = some y := ⟨_, List.getElem?_eq_getElem (by rw [unhide Hll]; exact hlt)⟩
          obtain ⟨g1, o1, ea1, _, u0, u1, u2, u3, u4, u5⟩ := r1.at hy
          obtain ⟨ry, ly⟩ := r1.dat y (List.mem_of_getElem? hy)
          obtain ⟨c, v1⟩ := y
          simp only at ry ly u0 u1 u2 u3 u4 u5
          obtain ⟨a3, k3, e3⟩ := ry.form
          subst e3 ea1
          have hsc : s1.ls[i]? = some c := by rw [← unhide HL1, List.getElem?_map, hy]; rfl
          have HG' := unhide HG
          have hcn := cnt_next (g := g) hsc
          have L2at : ∀ {d : Cp}, s2.ls[kk]? = some d → ∃ v, L2[kk]? = some (d, v) := fun {d} hd => by
            rw [← unhide HL2, List.getElem?_map] at hd
            cases hv : L2[kk]? with
            | none => rw [hv] at hd; cases hd
            | some y => rw [hv] at hd; obtain ⟨d', v⟩ := y; simp at hd; subst hd; exact ⟨v, rfl⟩
          by_cases hck : c.num = k
          · have bk : (c.num == k) = true := by simpa using hck
            cases hgc : g c with
            | some c' =>
              have hat := HG'.at hsc hgc
              rw [← (unhide HI).1] at hat
              obtain ⟨v2, hv2⟩ := L2at hat
              obtain ⟨g2, o2, ea2, _, w0, _⟩ := r2.at hv2
              subst ea2
              have hlt2 : kk < m2 := by rw [← unhide Hm2]; exact (List.getElem?_eq_some_iff.1 hat).1
              have hlt2' : (kk : Int) < (m2 : Int) := by omega
              have bk2 : (c'.num == k) = true := by rw [HG'.nm c c' hgc]; exact bk
              have HN := hide (show kk + 1 = cnt s1.ls g (i + 1) by rw [hcn, hgc, (unhide HI).1]; rfl)
              have HB := hide (unhide HI).2
              clear hcn hat hv2 r1 r2 hy ry ly u1 u2 u3 u4 u5 hsc HG' L2at hck hgc HI
              generalize c.num = d0 at *
              generalize c'.num = d1 at *
              go_wp2
              go_roundw
              case rel => exact ⟨i + 1, kk + 1, by omega, by omega, by go_num, by go_num, hide ⟨unhide HN, unhide HB⟩⟩
              case measure => show m - ((i : Int) + 1).toNat < m - ((i : Nat) : Int).toNat; omega
            | none =>
              have HN := hide (show kk = cnt s1.ls g (i + 1) by rw [hcn, hgc, (unhide HI).1]; rfl)
              have HB := hide (unhide HI).2
              by_cases hlt2 : kk < m2
              · have hlt2' : (kk : Int) < (m2 : Int) := by omega
                obtain ⟨d, hd⟩ : ∃ d, s2.ls[kk]? = some d := ⟨_, List.getElem?_eq_getElem (by rw [unhide Hm2]; exact hlt2)⟩
                obtain ⟨v2, hv2⟩ := L2at hd
                obtain ⟨g2, o2, ea2, _, w0, _⟩ := r2.at hv2
                subst ea2
                have bk2 : (d.num == k) = false := by rw [beq_eq_false_iff_ne]; exact HG'.gone (unhide HGd1).ris hsc hck hgc hd
                clear hcn hd hv2 r1 r2 hy ry ly u1 u2 u3 u4 u5 hsc HG' L2at hck hgc HI
                generalize c.num = d0 at *
                generalize d.num = d1 at *
                go_wp2
                go_roundw
                case rel => exact ⟨i + 1, kk, by omega, hkk, rfl, by go_num, hide ⟨unhide HN, unhide HB⟩⟩
                case measure => show m - ((i : Int) + 1).toNat < m - ((i : Nat) : Int).toNat; omega
              · have hlt2' : ¬ (kk : Int) < (m2 : Int) := by omega
                clear hcn r1 r2 hy ry ly u1 u2 u3 u4 u5 hsc HG' L2at hck hgc HI
                generalize c.num = d0 at *
                go_wp2
                go_roundw
                case rel => exact ⟨i + 1, kk, by omega, hkk, rfl, by go_num, hide ⟨unhide HN, unhide HB⟩⟩
                case measure => show m - ((i : Int) + 1).toNat < m - ((i : Nat) : Int).toNat; omega
          · have bk : (c.num == k) = false := by rw [beq_eq_false_iff_ne]; exact hck
            have hgc := HG'.ne c hck
            have hat := HG'.at hsc hgc
            rw [← (unhide HI).1] at hat
            obtain ⟨v2, hv2⟩ := L2at hat
            obtain ⟨g2, o2, ea2, _, w0, w1, w2, w3, w4, w5⟩ := r2.at hv2
            obtain ⟨rz, lz⟩ := r2.dat _ (List.mem_of_getElem? hv2)
            simp only at rz lz w0 w1 w2 w3 w4 w5
            obtain ⟨a4, k4, e4⟩ := rz.form
            subst e4 ea2
            have hlt2 : kk < m2 := by rw [← unhide Hm2]; exact (List.getElem?_eq_some_iff.1 hat).1
            have hlt2' : (kk : Int) < (m2 : Int) := by omega
            have hd2 : decide ((m2 : Int) ≤ (kk : Int)) = false := decide_eq_false (by omega)
            have HN := hide (show kk + 1 = cnt s1.ls g (i + 1) by rw [hcn, hgc, (unhide HI).1]; rfl)
            have HB := hide (unhide HI).2
            have HSa := hide (fun q : BelowOf wr => same_in c c a4 a3 k4 k3 q.w (rz.below q.h) (ry.below q.h) lz ly)
            rw [eqC_self] at HSa
            unfold cpV at HSa
            have mixed : Try.prog.follows .mixedOrders = true := by kernel_rfl
            have hnq := BelowOf.ne wr
            have mu0 : ∀ q : BelowOf wr, q.w.cell? ⟨g1, o1 + i * 6, none⟩ = some (.int .i64 c.num) := fun q => cell_below u0 q.h
            have mu1 : ∀ q : BelowOf wr, q.w.cell? ⟨g1, o1 + i * 6 + 1, none⟩ = some (.int .i64 c.frm) := fun q => cell_below u1 q.h
            have mu2 : ∀ q : BelowOf wr, q.w.cell? ⟨g1, o1 + i * 6 + 2, none⟩ = some (.int .i64 c.to) := fun q => cell_below u2 q.h
            have mu3 : ∀ q : BelowOf wr, q.w.cell? ⟨g1, o1 + i * 6 + 3, none⟩ = some (.slice a3 c.dat.length k3) := fun q => cell_below u3 q.h
            have mu4 : ∀ q : BelowOf wr, q.w.cell? ⟨g1, o1 + i * 6 + 4, none⟩ = some (.int .i64 c.sent) := fun q => cell_below u4 q.h
            have mu5 : ∀ q : BelowOf wr, q.w.cell? ⟨g1, o1 + i * 6 + 5, none⟩ = some (.bool c.bad) := fun q => cell_below u5 q.h
            have mw0 : ∀ q : BelowOf wr, q.w.cell? ⟨g2, o2 + kk * 6, none⟩ = some (.int .i64 c.num) := fun q => cell_below w0 q.h
            have mw1 : ∀ q : BelowOf wr, q.w.cell? ⟨g2, o2 + kk * 6 + 1, none⟩ = some (.int .i64 c.frm) := fun q => cell_below w1 q.h
            have mw2 : ∀ q : BelowOf wr, q.w.cell? ⟨g2, o2 + kk * 6 + 2, none⟩ = some (.int .i64 c.to) := fun q => cell_below w2 q.h
            have mw3 : ∀ q : BelowOf wr, q.w.cell? ⟨g2, o2 + kk * 6 + 3, none⟩ = some (.slice a4 c.dat.length k4) := fun q => cell_below w3 q.h
            have mw4 : ∀ q : BelowOf wr, q.w.cell? ⟨g2, o2 + kk * 6 + 4, none⟩ = some (.int .i64 c.sent) := fun q => cell_below w4 q.h
            have mw5 : ∀ q : BelowOf wr, q.w.cell? ⟨g2, o2 + kk * 6 + 5, none⟩ = some (.bool c.bad) := fun q => cell_below w5 q.h
            clear hcn hat hv2 r1 r2 hy ry ly rz lz hsc HG' L2at hck hgc HI u1 u2 u3 u4 u5 w0 w1 w2 w3 w4 w5
            generalize c.dat.length = n3 at *
            go_wp2_with fail
            refine wp_region_quiet_below mixed (by kernel_rfl) ?_
            repeat (any_goals (first | go_big_quiet_step ((go_at_call 21; exact below_of (unhide HSa _))) | quiet_step ((go_at_call 21; exact below_of (unhide HSa _)))))
            all_goals (refine wpQuiet_nil ?_; intro _ hw'; obtain ⟨q, hw''⟩ := hw'; subst hw'')
            all_goals (
              have HB9 := hide (bnext (unhide HB) q.h)
              clear HSa u0 mu0 mu1 mu2 mu3 mu4 mu5 mw0 mw1 mw2 mw3 mw4 mw5
              go_wp2
              go_roundw
              case rel => exact ⟨i + 1, kk + 1, by omega, by omega, by go_num, by go_num, hide ⟨unhide HN, unhide HB9⟩⟩
              case measure => show m - ((i : Int) + 1).toNat < m - ((i : Nat) : Int).toNat; omega)
        · obtain rfl : i = m := by omega
          have hlt' : ¬ (i : Int) < (i : Int) := by omega
          have hkm : kk = m2 := by rw [(unhide HI).1, ← unhide Hm2, ← (unhide HG).full, unhide Hm]
          have J8 := (unhide HJ7).below (unhide HI).2
          subst hkm
          by_cases hE : E1 = 0
          · obtain ⟨d, hd1, hd2, hd3, hd4, hd5⟩ := dbl_ok (unhide HGd0) (by rw [unhide HE1]; exact hE)
            rw [unhide Hs1] at hd2
            have hfd : fnd s2.ls N1 = some d := by
              have := (unhide HG).keep J8.kn.nl.gd.ris hd2 (by rw [hd3]; exact fun e => hd5 e.symm)
              rw [hd3, ← hd1, unhide HN1] at this
              exact this
            have hN : in64 N1 := by
              rw [← unhide HN1, hd1]
              have := (unhide HGd0).l0
              have := (unhide HGd0).l1
              exact ⟨by omega, by omega⟩
            have HDl := hide ((Deliver_in J8.kn.nl J8.hp hN).mono (fun e W h => J8.kn.take h))
            have e1 : tkC s2 N1 = d := by unfold tkC; rw [hfd]; rfl
            have e2 : tkE s2 N1 = 0 := by unfold tkE; rw [hfd]; rfl
            rw [e1, e2] at HDl
            unfold cpV at HDl
            rw [hd4] at HDl
            have hEb : (E1 != 0) = false := by simpa using hE
            clear hd1 hd2 hd3 hd4 hd5 hfd hN e1 e2 hE HI J8
            generalize d.dat = dd at *
            go_wp2_with fail
            refine (unhide HDl).mono ?_
            rintro e V5 ⟨a9, n9, rfl, _, K9, _⟩
            obtain ⟨X9, hX9⟩ : ∃ X, V5.alloc (.cells #[.int .i64 0, .int .i64 0, .int .i64 0, .slice none 0 0, .int .i64 0, .bool false] 44) = X := ⟨_, rfl⟩
            have bx9 : Bx X9 V5.heap.size 44 #[.int .i64 0, .int .i64 0, .int .i64 0, .slice none 0 0, .int .i64 0, .bool false] := by rw [← hX9]; exact Bx.new _ _ _
            have b9 : Below V5.heap.size V5 X9 := by rw [← hX9]; exact ballc (Below.refl _ _) _
            obtain ⟨Y9, hY9⟩ : ∃ Y, (((((X9.setCell ⟨V5.heap.size, 0, none⟩ (.int .i64 d.num)).setCell ⟨V5.heap.size, 1, none⟩ (.int .i64 d.frm)).setCell ⟨V5.heap.size, 2, none⟩ (.int .i64 d.to)).setCell ⟨V5.heap.size, 3, none⟩ (.slice a9 dd.length n9)).setCell ⟨V5.heap.size, 4, none⟩ (.int .i64 d.sent)).setCell ⟨V5.heap.size, 5, none⟩ (.bool false) = Y := ⟨_, rfl⟩
            obtain ⟨by9, ky9⟩ := set6 bx9 _ _ _ _ _ _ hY9
            have HBe := hide (bnext K9.bel (ky9.below b9 (fun i e => by omega)))
            have z0 := bx9.cell 0 (.int .i64 0) rfl
            have f0 := bx9.frozen 0
            have z1 := bx9.cell 1 (.int .i64 0) rfl
            have f1 := bx9.frozen 1
            have z2 := bx9.cell 2 (.int .i64 0) rfl
            have f2 := bx9.frozen 2
            have z3 := bx9.cell 3 (.slice none 0 0) rfl
            have f3 := bx9.frozen 3
            have z4 := bx9.cell 4 (.int .i64 0) rfl
            have f4 := bx9.frozen 4
            have z5 := bx9.cell 5 (.bool false) rfl
            have f5 := bx9.frozen 5
            have t5 := by9.cell 5 (.bool false) rfl
            have HKn := hide (known_in Y9)
            clear HDl K9 by9 ky9 bx9 b9
            go_wp2_with fail
            refine (unhide HKn).mono ?_
            rintro e V6 ⟨rfl, hb⟩
            have HB := hide (bnext (unhide HBe) hb)
            clear HKn hb HBe z0 z1 z2 z3 z4 z5 f0 f1 f2 f3 f4 f5 t5
            go_wp2
            go_ret
            exact ⟨rfl, unhide HB⟩
          · have hN : N1 = 0 := by rw [← unhide HN1]; exact dbl_no (by rw [unhide HE1]; exact hE)
            have hEb : (E1 != 0) = true := by simpa using hE
            have HBe := hide J8.kn.bel
            have HKn := hide (known_in wr)
            clear HI J8 hE
            rw [hN]
            clear hN
            go_wp2_with fail
            refine (unhide HKn).mono ?_
            rintro e V6 ⟨rfl, hb⟩
            have HB := hide (bnext (unhide HBe) hb)
            clear HKn hb HBe
            go_wp2
            go_ret
            exact ⟨rfl, unhide HB⟩

theorem own : ownKnob Try.prog.godebug = none := by kernel_rfl
theorem laidOut2 : laidOutB Try.prog = true := by kernel_rfl

set_option maxRecDepth 100000 in
theorem lifted (os : Os) (started : os.Started) (H : Type) (enc : TypeId × Value → H) :
    ReturnsInHanded {} Try.checked os 7 .any (Rows.netApartSpec.pre6 enc Try.prog Try.f7 Rows.netApartRow.domain false) (Rows.netApartSpec.post enc Try.prog Try.f7 false true false false) := by
  refine returnsInHanded_of_change (C := Try.checked) own started (by kernel_rfl) Try.func7
    (ChangeSpec.witness6 (enc := enc) (C := Try.checked) false ⟨#[], #[.slice none 0 0, .int .i64 0, .agg #[.int .i64 0, .int .i64 0, .int .i64 0, .int .i64 0, .int .i64 0, .slice none 0 0]], []⟩ 8 (by kernel_rfl) (by kernel_rfl) (by kernel_rfl) (by kernel_rfl)) ?_
  intro W base args ds gs before hval0 hW hcnd _
  have hval : ∀ (j : Nat) t v, Try.f7.params[j]? = some t → args[j]? = some v → Value.okWide Try.prog W .any base t v := hval0
  have hW' := hW
  obtain ⟨p, q, hA0, hV, rfl, hfz, hnd⟩ := hW
  have hA : DataW.TrodAll enc Try.prog W 0 (fun _ => true) true Try.f7.params.toList args.toList ds p := hA0
  rw [Try.params7] at hA hval
  obtain ⟨v0, vs0, d0, ds0, p0, q0, hargs, rfl, rfl, h0, r0⟩ := trodAll_cons hA
  obtain ⟨v1, vs1, d1, ds1, p1, q1, rfl, rfl, rfl, h1, r1⟩ := trodAll_cons r0
  obtain ⟨v2, vs2, d2, ds2, p2, q2, rfl, rfl, rfl, h2, r2⟩ := trodAll_cons r1
  obtain ⟨rfl, rfl, rfl⟩ := trodAll_nil r2
  obtain rfl : args = #[v0, v1, v2] := by cases args; simp_all
  obtain ⟨rfl, rfl⟩ := trodVars_none hV
  obtain ⟨a0, len0, cap0, rfl⟩ := okWide_slice Try.underlying22 (hval 0 22 v0 rfl rfl)
  have k0 := h0
  have lt0 : ∀ x ∈ p0, x.block < W.heap.size := by obtain ⟨m, hm⟩ := k0; exact DataW.trod_lt m _ _ _ hm
  obtain ⟨z0, w0⟩ : ∃ l : List Stp, RSt W (.slice a0 len0 cap0) l ∧ l.length = len0 ∧ len0 ≤ maxLen ∧ ∀ e ∈ l, StW W e := by
    obtain ⟨fuel, hf⟩ := h0
    simp only [Value.cells] at hf
    exact open_steps hf
  obtain ⟨a1, rfl, rfl, rfl, w1⟩ := open_int Try.underlying3 (hval 1 3 v1 rfl rfl) h1
  have k2 := h2
  have lt2 : ∀ x ∈ p2, x.block < W.heap.size := by obtain ⟨m, hm⟩ := k2; exact DataW.trod_lt m _ _ _ hm
  obtain ⟨a2, rfl, w2⟩ := open_step (hval 2 32 v2 rfl rfl) h2
  clear hA0 hval0
  refine (walk a0 len0 cap0 z0 a1 a2 W w0 w1 w2).mono fun e W' ⟨he, bel⟩ => ?_
  subst he
  exact ⟨_, rfl, _, _, _, [], _, [], hW', trodAll_mk1 (shut_bool Try.underlying4 _), (trodAll_cons_mk (Below.trod laidOut2 (by kernel_rfl) (of_decide_eq_true (by kernel_rfl)) k0 bel lt0) (trodAll_cons_mk (shut_int Try.underlying3 w1) (trodAll_cons_mk (Below.trod laidOut2 (by kernel_rfl) (of_decide_eq_true (by kernel_rfl)) k2 bel lt2) trodAll_mk0))), rfl, bel.frame _, fun h => by cases h⟩

theorem over : Rows.netApartRow.holds Try.pinned (OpenSpec.ofChange Rows.netApartSpec) :=
  OpenClaim.holds_of_wide 7 Try.f7 rfl rfl rfl rfl rfl rfl rfl ⟨rfl, rfl, rfl, rfl, rfl⟩ rfl rfl rfl rfl rfl (by kernel_rfl) Try.func7 (by kernel_rfl)
    (of_decide_eq_true (by kernel_rfl)) (by unfold Func.isWrapper; first | (rw [if_pos (by decide +kernel)]; kernel_rfl) | (rw [if_neg (by decide +kernel)]; exact ⟨rfl, rfl⟩))
    (fun os started H enc _ => lifted os started H enc)

end LNetApart

theorem netApart_holds : Rows.NetApartSaid := LNetApart.over

end Go.Proofs.Ytfminifjnjfocaa
