/-
  Chapter 20's law NetRefused returns true for every script and every step, and leaves its arguments as they were; no condition.
-/
import Derived.Test.YtfminifjnjfocaaRows
import Derived.WalkKit
import Derived.ProofKit
import Derived.OpenShut
import Derived.ShutString
import Derived.ChangeOld
import Derived.Below
import Derived.Test.YtfminifjnjfocaaZNY
import Derived.Deep.CutRange
set_option linter.unusedVariables false
set_option linter.unusedSimpArgs false
namespace Go.Proofs.Ytfminifjnjfocaa
namespace LNetRefused
open Go.ChangeShapes Go.WideShapes Go.ChangeAt Go.RowKit Go.Lib
open Go.ChangeMaps (open_string shut_string)

open Go.RowKit Go.Lib
set_option maxRecDepth 100000 in
set_option maxHeartbeats 16000000 in
theorem walk (a : Option Addr) (len cap : Nat) (z : List Stp) (x : Stp) (W : World) (h : RSt W (.slice a len cap) z ∧ z.length = len ∧ len ≤ maxLen ∧ ∀ e ∈ z, StW W e) (hx : StW W x) : Calls Try.prog 8 #[.slice a len cap, .agg (stC x)] W fun e W' => e = .returned (.bool true) ∧ Below W.heap.size W W' := by
  obtain ⟨hR, hl, hm, hS⟩ := h
  obtain ⟨av, cv, ev⟩ := hx.fd
  obtain ⟨M, hM⟩ : ∃ M, x.dat.length = M := ⟨_, rfl⟩
  have Hl := hide hl
  have HR := hide hR
  have HSt := hide hS
  have HX := hide hx
  subst hl
  obtain ⟨X0, hX0⟩ : ∃ X0, W.alloc (.cells (stC x) 32) = X0 := ⟨_, rfl⟩
  have b0 : Below W.heap.size W X0 := by rw [← hX0]; exact ballc (Below.refl _ _) _
  have bx : Bx X0 W.heap.size 32 (stC x) := by rw [← hX0]; exact Bx.new _ _ _
  have Hz0 : Hid (X0.heap.size = W.heap.size + 1) := hide (by rw [← hX0]; simp)
  have y5 : X0.cell? ⟨W.heap.size, 5, none⟩ = some (.slice av M cv) := by rw [← hM, ← ev]; exact bx.cell 5 x.vd rfl
  have HMu := hide (much_in z a cap X0 (hR.below b0) (fun e he => (hS e he).below b0) (by unfold maxLen at hm; omega))
  have HK := hide (known_in X0)
  have HN := hide (New_in X0)
  have HB0 := hide b0
  have Hbx := hide bx
  have HevM := hide (And.intro ev hM)
  obtain ⟨n, hn⟩ : ∃ n, z.length = n := ⟨_, rfl⟩
  have Hn := hide hn
  unfold stC at hX0
  unfold stC
  rw [ev, hM] at hX0 ⊢
  rw [hn] at HMu ⊢
  clear hn bx b0 hR hS hx ev hM hm Hl
  go_enter Try.func8, Try.ntmps8
  go_wp2_with fail
  refine (unhide HMu).mono ?_
  rintro e W1 ⟨R, rfl, hsm, rfl⟩
  clear HMu
  by_cases hbig : R = true ∨ 60000 < M
  · have hw : ∀ (R : Bool), Hid (R = true ∨ 60000 < M) → True := fun _ _ => trivial
    clear hsm HN
    cases R with
    | true =>
      go_wp2_with fail
      refine (unhide HK).mono ?_
      rintro e W2 ⟨rfl, hb⟩
      have HB := hide (bnext (unhide HB0) hb)
      clear hb HK
      go_wp2
      go_ret
      exact ⟨rfl, unhide HB⟩
    | false =>
      have hg : 60000 < M := by simpa using hbig
      have hg' : (60000 : Int) < (M : Int) := by omega
      go_wp2_with fail
      refine (unhide HK).mono ?_
      rintro e W2 ⟨rfl, hb⟩
      have HB := hide (bnext (unhide HB0) hb)
      clear hb HK
      go_wp2
      go_ret
      exact ⟨rfl, unhide HB⟩
  have hR0 : R = false := by cases R with | false => rfl | true => exact absurd (.inl rfl) hbig
  subst hR0
  have hM6 : M ≤ 60000 := by simpa using hbig
  have hg' : ¬ (60000 : Int) < (M : Int) := by omega
  have HSm := hide (hsm rfl)
  clear hbig hsm HK
  have hn2 : n ≤ 200 := by have := (unhide HSm).1; rw [unhide Hn] at this; exact this
  go_wp2_with fail
  refine (unhide HN).mono ?_
  rintro e W2 ⟨rfl, hnl, hb⟩
  have J0 : Hid (∃ S, RJ W W.heap.size x S W2 X0.heap.size zerS) := hide ⟨_, KN.new W (unhide HB0) hnl hb, (unhide Hbx).below hb, fun e => by have := e.1; have := unhide Hz0; omega⟩
  generalize hbb : X0.heap.size = b at *
  clear HN hnl hb Hbx hbb y5
  go_wp2
  go_loopw [6] (fun iv wr => ∃ i : Nat, i ≤ n ∧ iv = .int .i64 (i : Nat) ∧ Hid (∃ S s, RJ W W.heap.size x S wr b s)) (fun iv _ => n - (RowKit.intOf iv).toNat)
  case atStart =>
    obtain ⟨S, h⟩ := unhide J0
    exact ⟨0, Nat.zero_le _, rfl, hide ⟨S, _, h⟩⟩
  case round =>
    obtain ⟨i, hi, rfl, HI⟩ := hrel
    clear J0
    by_cases hlt : i < n
    · have hlt' : (i : Int) < (n : Int) := by omega
      obtain ⟨S, s, J⟩ := unhide HI
      obtain ⟨e0, he0⟩ : ∃ e0, z[i]? = some e0 := ⟨_, List.getElem?_eq_getElem (by rw [unhide Hn]; exact hlt)⟩
      have hmem := List.mem_of_getElem? he0
      have rr := (unhide HR).below J.kn.bel
      rw [show (Value.slice a z.length cap) = .slice a n cap by rw [unhide Hn]] at rr
      obtain ⟨bs, os, rfl, _, u0, u1, u2, u3, u4, u5⟩ := rr.at he0
      have HD := hide ((do_in J.kn.nl J.hp e0 ((unhide HSt e0 hmem).below J.kn.bel) (by have := (unhide HSm).2 e0 hmem; omega)).mono (fun e W h => J.call h))
      obtain ⟨ae, ce, ee⟩ := (unhide HSt e0 hmem).fd
      unfold stC at HD
      rw [ee] at u5 HD
      generalize e0.dat.length = ne at *
      clear J he0 hmem rr ee HI
      go_wp2_with fail
      refine (unhide HD).mono ?_
      rintro e W3 ⟨rfl, S', J', _⟩
      have HJ := hide J'
      clear HD J' u0 u1 u2 u3 u4 u5
      go_wp2
      go_roundw
      case rel => exact ⟨i + 1, by omega, by go_num, hide ⟨S', _, unhide HJ⟩⟩
      case measure => show n - ((i : Int) + 1).toNat < n - ((i : Nat) : Int).toNat; omega
    · obtain rfl : i = n := by omega
      have hlt' : ¬ (i : Int) < (i : Int) := by omega
      obtain ⟨S1, s, J1⟩ := unhide HI
      have HJ1 := hide J1
      have HC1 := hide (Copies_in J1.kn.nl)
      clear HI J1
      unfold CopA at HC1
      go_wp2_with fail
      refine (unhide HC1).mono ?_
      rintro e V1 ⟨a1, k1, L1, rfl, hL1, hC1, hb1⟩
      have J2 := (unhide HJ1).below hb1
      have hnb1 : ∀ i, blkC (.slice a1 s.ls.length k1) L1 i → ¬ S1 i := fun i hi e => by have := (hC1.blt i hi).1; have := (unhide HJ1).hp i e; omega
      have hll : L1.length = s.ls.length := by rw [← hL1, List.length_map]
      have hsl := J2.kn.nl.gd.len'
      obtain ⟨m, hm⟩ : ∃ m, s.ls.length = m := ⟨_, rfl⟩
      have HJ2 := hide J2
      have HC := hide (And.intro hC1 (And.intro hL1 hnb1))
      have Hm := hide hm
      have Hll := hide hll
      rw [hm] at hsl HC
      have Hy := hide J2.y
      rw [hm]
      clear HC1 hC1 hL1 hnb1 hb1 HJ1 J2 hll hm hlt hlt' hi
      go_wp2
      go_loopw [8, 9] (fun av' iv wr => ∃ i : Nat, i ≤ m ∧ av' = .int .i64 (atI s.ls x.num i) ∧ iv = .int .i64 (i : Nat) ∧ Hid (Below V1.heap.size V1 wr)) (fun _ iv _ => m - (RowKit.intOf iv).toNat)
      case atStart => exact ⟨0, Nat.zero_le _, rfl, rfl, hide (Below.refl _ _)⟩
      case round =>
        obtain ⟨i, hi, rfl, rfl, HI⟩ := hrel
        by_cases hlt : i < m
        · have hlt' : (i : Int) < (m : Int) := by omega
          obtain ⟨y1, hy1⟩ : ∃ y1, L1[i]? = some y1 := ⟨_, List.getElem?_eq_getElem (by rw [unhide Hll, unhide Hm]; exact hlt)⟩
          have hR1 := ((unhide HC).1.rcp (CL.len (unhide HJ2).kn.nl.gd (unhide HC).2.1)).below (unhide HI)
          obtain ⟨g1, o1, rfl, _, u0, _⟩ := hR1.at hy1
          have hsi : s.ls[i]? = some y1.1 := by rw [← (unhide HC).2.1, List.getElem?_map, hy1]; rfl
          have q1 := cell_below (unhide Hy).2.1 (unhide HI)
          have hst : atI s.ls x.num (i + 1) = if (y1.1.num == x.num) = true then (i : Int) else atI s.ls x.num i := by
            show (if (s.ls[i]?).any (fun c => c.num == x.num) = true then (i : Int) else atI s.ls x.num i) = _
            rw [hsi]; rfl
          have Hst := hide hst
          have HI2 := hide (bdrew (unhide HI) 1)
          clear hst hR1 hy1 hsi
          cases hq : (y1.1.num == x.num) with
          | true =>
            generalize y1.1.num = d0 at *
            go_wp2
            go_region
            go_wp2
            go_roundw
            case rel => exact ⟨i + 1, by omega, by rw [unhide Hst, hq]; rfl, by go_num, HI2⟩
            case measure => show m - ((i : Int) + 1).toNat < m - ((i : Nat) : Int).toNat; omega
          | false =>
            generalize y1.1.num = d0 at *
            go_wp2
            go_region
            go_wp2
            go_roundw
            case rel => exact ⟨i + 1, by omega, by rw [unhide Hst, hq]; rfl, by go_num, HI2⟩
            case measure => show m - ((i : Int) + 1).toNat < m - ((i : Nat) : Int).toNat; omega
        · obtain rfl : i = m := by omega
          have hlt' : ¬ (i : Int) < (i : Int) := by omega
          obtain ⟨AT, hAT⟩ : ∃ AT, atI s.ls x.num i = AT := ⟨_, rfl⟩
          rw [hAT]
          have HAT := hide hAT
          clear hAT
          have J3 := (unhide HJ2).below (unhide HI)
          have HGd := hide J3.kn.nl.gd
          have HCb := hide (And.intro ((unhide HC).1.below (unhide HI)) (unhide HC).2)
          have hxr := (unhide HX).rd.below J3.kn.bel
          rw [(unhide HevM).1] at hxr
          have HA := hide ((Alter_in J3.kn.nl J3.hp (unhide HX).num x.at_ av cv x.dat hxr (unhide HX).ln).mono (fun e W h => J3.call h))
          rw [(unhide HevM).2] at HA
          have qy := J3.y
          rw [(unhide HevM).1, (unhide HevM).2] at qy
          obtain ⟨_, qy1, _, _, qy4, qy5⟩ := qy
          obtain ⟨E1, hE1⟩ : ∃ E, altE s x.num x.at_ x.dat = E := ⟨_, rfl⟩
          obtain ⟨s2, hs2⟩ : ∃ s2, altS s x.num x.at_ x.dat = s2 := ⟨_, rfl⟩
          rw [hE1, hs2] at HA
          have HE1 := hide hE1
          have Hs2 := hide hs2
          clear hE1 hs2 J3 hxr HI HC HJ2 Hy hlt hi
          go_wp2_with fail
          refine (unhide HA).mono ?_
          rintro e V2 ⟨rfl, S2, J4, D4⟩
          have hC2 := (unhide HCb).1.dn D4 (unhide HCb).2.2
          have HJ4 := hide J4
          have HC4 := hide (And.intro hC2.1 (And.intro (unhide HCb).2.1 hC2.2))
          clear HA J4 D4 hC2 HCb qy1 qy4 qy5
          go_upto_if 68 with fail
          go_cut [10, 12] from 69 to 119 (fun v u wx => v = .int .i64 E1 ∧ Hid (Below V2.heap.size V2 wx))
          case first =>
            cases hf : fnd s.ls x.num with
            | none =>
              have h1 : AT = -1 := by rw [← unhide HAT]; exact atI_none hf _
              have h2 : E1 = 11 := by rw [← unhide HE1]; unfold altE; rw [hf]
              clear hf
              subst h1 h2
              go_wp2
              go_meet
              case rel => exact ⟨rfl, hide (Below.refl _ _)⟩
            | some c =>
              obtain ⟨j, hj, hjc, hat⟩ := atI_some (unhide HGd).ris hf
              have h1 : AT = (j : Int) := by rw [← unhide HAT]; exact hat _ (by rw [← unhide Hm]; exact hj) (by rw [← unhide Hm]; exact Nat.le_refl _)
              subst h1
              have hji : j < i := by rw [← unhide Hm]; exact hj
              have hji' : (j : Int) < (i : Int) := by omega
              obtain ⟨y, hy, hyc⟩ : ∃ y, L1[j]? = some y ∧ y.1 = c := by
                have e := hjc
                rw [← (unhide HC4).2.1, List.getElem?_map] at e
                cases hy : L1[j]? with
                | none => rw [hy] at e; cases e
                | some y => rw [hy] at e; exact ⟨y, rfl, Option.some.inj e⟩
              have hR1 := (unhide HC4).1.rcp (CL.len (unhide HGd) (unhide HC4).2.1)
              obtain ⟨g3, o3, ea, _, _, _, _, u3, _, u5⟩ := hR1.at hy
              obtain ⟨rd3, ld3⟩ := hR1.dat y (List.mem_of_getElem? hy)
              obtain ⟨c', v3⟩ := y
              simp only at rd3 ld3 u3 u5 hyc
              subst hyc
              obtain ⟨a3, k3, e3⟩ := rd3.form
              subst e3 ea
              obtain ⟨_, _, _, _, qy4, qy5⟩ := (unhide HJ4).y
              rw [(unhide HevM).1, (unhide HevM).2] at qy5
              have hE : E1 = if fitA c' x.at_ x.dat = true then (if c'.bad = true then 12 else 0) else 1 := by rw [← unhide HE1]; unfold altE; rw [hf]
              obtain ⟨F, hF⟩ : ∃ F, fitA c' x.at_ x.dat = F := ⟨_, rfl⟩
              rw [hF] at hE
              have HEE := hide hE
              unfold fitA at hF
              rw [(unhide HevM).2] at hF
              obtain ⟨D, hD⟩ : ∃ D, c'.dat.length = D := ⟨_, rfl⟩
              rw [hD] at hF u3 rd3 ld3
              have hM1 := (unhide HevM).2
              have u5' := hide (fun V (hV : Below V2.heap.size V2 V) => cell_below u5 hV)
              clear hE hf hjc hat hy hR1 u5
              go_upto_region 22 with fail
              go_cut [114] from 74 to 114 (fun v wx => v = .bool (!F) ∧ Hid (Below V2.heap.size V2 wx))
              case first =>
                have mixed : Try.prog.follows .mixedOrders = true := by kernel_rfl
                have hne := BelowOf.ne V2
                have m4 : ∀ q : BelowOf V2, q.w.cell? ⟨W.heap.size, 4, none⟩ = some (.int .i64 x.at_) := fun q => cell_below qy4 q.h
                have m5 : ∀ q : BelowOf V2, q.w.cell? ⟨W.heap.size, 5, none⟩ = some (.slice av M cv) := fun q => cell_below qy5 q.h
                by_cases c1 : M < 1
                · have HFF : Hid (F = false) := hide (by rw [← hF, decide_eq_false (by omega), Bool.false_and])
                  have d1 : decide ((M : Int) < 1) = true := decide_eq_true (by omega)
                  have HBy : Hid (∀ q : BelowOf V2, True) := fun _ => trivial
                  clear hF rd3 u3 qy4 qy5
                  refine wp_region_quiet_below mixed (by kernel_rfl) ?_
                  repeat (any_goals (first | go_big_quiet_step ((go_at_call 25; exact below_of (unhide HBy _))) | quiet_step ((go_at_call 25; exact below_of (unhide HBy _)))))
                  all_goals (refine wpQuiet_nil ?_; intro _ hw'; obtain ⟨q, hw''⟩ := hw'; subst hw'')
                  all_goals (
                    have HB9 := hide q.h
                    clear m4 m5
                    go_wp2
                    go_meet
                    case rel => exact ⟨by rw [unhide HFF]; rfl, HB9⟩)
                by_cases c2 : 4 < M
                · have HFF : Hid (F = false) := hide (by rw [← hF, decide_eq_false (by omega), Bool.false_and])
                  have d1 : decide ((M : Int) < 1) = false := decide_eq_false (by omega)
                  have d2 : decide ((4 : Int) < (M : Int)) = true := decide_eq_true (by omega)
                  have HBy : Hid (∀ q : BelowOf V2, True) := fun _ => trivial
                  clear hF rd3 u3 qy4 qy5
                  refine wp_region_quiet_below mixed (by kernel_rfl) ?_
                  repeat (any_goals (first | go_big_quiet_step ((go_at_call 25; exact below_of (unhide HBy _))) | quiet_step ((go_at_call 25; exact below_of (unhide HBy _)))))
                  all_goals (refine wpQuiet_nil ?_; intro _ hw'; obtain ⟨q, hw''⟩ := hw'; subst hw'')
                  all_goals (
                    have HB9 := hide q.h
                    clear m4 m5
                    go_wp2
                    go_meet
                    case rel => exact ⟨by rw [unhide HFF]; rfl, HB9⟩)
                by_cases c3 : x.at_ < 0
                · have HFF : Hid (F = false) := hide (by rw [← hF, decide_eq_false (by omega), Bool.false_and])
                  have d1 : decide ((M : Int) < 1) = false := decide_eq_false (by omega)
                  have d2 : decide ((4 : Int) < (M : Int)) = false := decide_eq_false (by omega)
                  have d3 : decide (x.at_ < 0) = true := decide_eq_true c3
                  have HBy : Hid (∀ q : BelowOf V2, True) := fun _ => trivial
                  clear hF rd3 u3 qy4 qy5
                  refine wp_region_quiet_below mixed (by kernel_rfl) ?_
                  repeat (any_goals (first | go_big_quiet_step ((go_at_call 25; exact below_of (unhide HBy _))) | quiet_step ((go_at_call 25; exact below_of (unhide HBy _)))))
                  all_goals (refine wpQuiet_nil ?_; intro _ hw'; obtain ⟨q, hw''⟩ := hw'; subst hw'')
                  all_goals (
                    have HB9 := hide q.h
                    clear m4 m5
                    go_wp2
                    go_meet
                    case rel => exact ⟨by rw [unhide HFF]; rfl, HB9⟩)
                have w1 : (D : Int) - (M : Int) ≤ 9223372036854775807 := by omega
                have w2 : -9223372036854775808 ≤ (D : Int) - (M : Int) := by omega
                by_cases c4 : (D : Int) - (M : Int) < x.at_
                · have HFF : Hid (F = false) := hide (by rw [← hF, decide_eq_false (by omega), Bool.false_and])
                  have d1 : decide ((M : Int) < 1) = false := decide_eq_false (by omega)
                  have d2 : decide ((4 : Int) < (M : Int)) = false := decide_eq_false (by omega)
                  have d3 : decide (x.at_ < 0) = false := decide_eq_false c3
                  have d4 : decide ((D : Int) - (M : Int) < x.at_) = true := decide_eq_true c4
                  have HBy : Hid (∀ q : BelowOf V2, True) := fun _ => trivial
                  clear hF rd3 u3 qy4 qy5
                  refine wp_region_quiet_below mixed (by kernel_rfl) ?_
                  repeat (any_goals (first | go_big_quiet_step ((go_at_call 25; exact below_of (unhide HBy _))) | quiet_step ((go_at_call 25; exact below_of (unhide HBy _)))))
                  all_goals (refine wpQuiet_nil ?_; intro _ hw'; obtain ⟨q, hw''⟩ := hw'; subst hw'')
                  all_goals (
                    have HB9 := hide q.h
                    clear m4 m5
                    go_wp2
                    go_meet
                    case rel => exact ⟨by rw [unhide HFF]; rfl, HB9⟩)
                · obtain ⟨zz, hzz⟩ : ∃ zz : Nat, x.at_ = (zz : Nat) := ⟨x.at_.toNat, by omega⟩
                  have HFF : Hid ((!F) = decide ((c'.dat.drop zz).take M = x.dat)) := hide (by rw [← hF, decide_eq_true (by omega), Bool.true_and]; unfold chgB; rw [Bool.not_not, hzz, Int.toNat_natCast, hM1])
                  obtain ⟨g4, o4, ea4⟩ : ∃ g4 o4, a3 = some ⟨g4, o4, none⟩ := by
                    rcases rd3 with ⟨h0, _⟩ | ⟨g4, o4, _, e, _⟩
                    · omega
                    · simp only [Value.slice.injEq] at e; exact ⟨g4, o4, e.1⟩
                  subst ea4
                  have hk3 : D ≤ k3 := by
                    rcases rd3 with ⟨h0, _⟩ | ⟨_, _, cap', e, h2, _⟩
                    · omega
                    · simp only [Value.slice.injEq] at e; omega
                  have hzM : zz + M ≤ D := by omega
                  have rs := rd3.sub hD hzM (by omega)
                  have hxr := (unhide HX).rd.below (unhide HJ4).kn.bel
                  rw [(unhide HevM).1] at hxr
                  have HBy : Hid (∀ q : BelowOf V2, Calls Try.prog 25 #[.slice (some ⟨g4, o4 + zz, none⟩) M (k3 - zz), .slice av M cv] q.w fun e W' => e = .returned (.bool (!F)) ∧ Below q.w.heap.size q.w W') := fun q => by
                    have e5 : ((c'.dat.drop zz).take M).length = M := by rw [List.length_take, List.length_drop]; omega
                    have := lbytes_in _ _ ((c'.dat.drop zz).take M) x.dat q.w (rs.below q.h) (hxr.below q.h) (by omega) (by omega)
                    rw [← unhide HFF, hM1] at this
                    exact this
                  rw [hzz] at m4
                  have d1 : decide ((M : Int) < 1) = false := decide_eq_false (by omega)
                  have d2 : decide ((4 : Int) < (M : Int)) = false := decide_eq_false (by omega)
                  have d3 : decide (((zz : Nat) : Int) < 0) = false := decide_eq_false (by omega)
                  have d4 : decide ((D : Int) - (M : Int) < ((zz : Nat) : Int)) = false := decide_eq_false (by omega)
                  have w3 : ((zz : Nat) : Int) + (M : Int) ≤ ((k3 : Nat) : Int) := by omega
                  have w4 : ((zz : Nat) : Int) ≤ ((zz : Nat) : Int) + (M : Int) := by omega
                  have w5 : ¬ zz = k3 := by omega
                  have w6 : ¬ k3 = zz := by omega
                  have w8 : ((zz : Nat) : Int) + (M : Int) ≤ 9223372036854775807 := by omega
                  have w9 : -9223372036854775808 ≤ ((zz : Nat) : Int) + (M : Int) := by omega
                  have hwr : IntKind.i64.wrap (((zz : Nat) : Int) + (M : Int)) = ((zz : Nat) : Int) + (M : Int) := by simp only [IntKind.wrap_i64]; omega
                  have hsl := fun w => sl_bb w g4 o4 D k3 zz M (by omega) w6
                  clear HFF hF rd3 u3 qy4 qy5 rs hxr hzz hzM
                  refine wp_region_quiet_below mixed (by kernel_rfl) ?_
                  repeat (any_goals (first | go_big_quiet_step ((go_at_call 25; exact below_of (unhide HBy _))) | quiet_step ((go_at_call 25; exact below_of (unhide HBy _)))))
                  all_goals (refine wpQuiet_nil ?_; intro _ hw'; obtain ⟨q, hw''⟩ := hw'; subst hw'')
                  all_goals (
                    have HB9 := hide q.h
                    clear m4 m5
                    go_wp2
                    go_meet
                    case rel => exact ⟨rfl, HB9⟩)
              obtain ⟨rfl, HB5⟩ := hcut
              rename_i hKx
              refine hKx _ _ ?_
              clear hKx hF rd3 u3 qy4 qy5
              have u5 := unhide u5' wc (unhide HB5)
              clear u5'
              cases F with
              | false =>
                have h2 : E1 = 1 := by simpa using unhide HEE
                subst h2
                go_wp2
                go_meet
                case rel => exact ⟨rfl, HB5⟩
              | true =>
                cases hbd : c'.bad with
                | true =>
                  have h2 : E1 = 12 := by simpa [hbd] using unhide HEE
                  rw [hbd] at u5
                  subst h2
                  go_wp2
                  go_meet
                  case rel => exact ⟨rfl, HB5⟩
                | false =>
                  have h2 : E1 = 0 := by simpa [hbd] using unhide HEE
                  rw [hbd] at u5
                  subst h2
                  go_wp2
                  go_meet
                  case rel => exact ⟨rfl, HB5⟩
          obtain ⟨rfl, HB4⟩ := hcut
          have J5 := (unhide HJ4).below (unhide HB4)
          have HC5 := hide (And.intro ((unhide HC4).1.below (unhide HB4)) (unhide HC4).2)
          have HCo := hide (Copies_in J5.kn.nl)
          have hl2 : s2.ls.length = i := by rw [← unhide Hs2, alt_lenS, unhide Hm]
          have HJ5 := hide J5
          have Hl2 := hide hl2
          unfold CopA at HCo
          rw [hl2] at HCo
          clear J5 HC4 HJ4 HB4 hl2
          go_wp2_with fail
          refine (unhide HCo).mono ?_
          rintro e V3 ⟨a5, k5, L2, rfl, hL2, hC6, hb6⟩
          have J6 := (unhide HJ5).below hb6
          have hC1 := (unhide HC5).1.below hb6
          have hl1 : L1.length = i := by rw [unhide Hll, unhide Hm]
          have hl2 : L2.length = i := by rw [← unhide Hl2, ← hL2, List.length_map]
          have hnb2 : ∀ q, blkC (.slice a5 i k5) L2 q → ¬ S2 q := fun q hq e => by have := (hC6.blt q hq).1; have := (unhide HJ5).hp q e; omega
          have HCp := hide (copies_in (L := L2) (M := L1) a5 a1 k5 k1 V3 (by rw [hl2]; exact hC6.rcp (CL.len J6.kn.nl.gd hL2)) (by rw [hl1]; exact hC1.rcp (CL.len (unhide HGd) (unhide HC5).2.1)) (by omega) (by omega))
          rw [hL2, (unhide HC5).2.1, hl1, hl2] at HCp
          obtain ⟨R2, hR2⟩ : ∃ R, eqL s2.ls s.ls = R := ⟨_, rfl⟩
          rw [hR2] at HCp
          have hq2 : ((E1 == 0) == R2) = false := by rw [← hR2, ← unhide Hs2, ← unhide HE1]; exact alt_eqs (unhide HGd)
          have HJ6 := hide J6
          have HC6 := hide (And.intro hC6 (And.intro hL2 hnb2))
          have Hl1 := hide hl1
          have HL2 := hide hl2
          clear HCo J6 hC1 hl1 hl2 hnb2 hC6 hL2 hb6 HJ5 hR2 HC5
          go_wp2_with fail
          refine (unhide HCp).mono ?_
          rintro e V4 ⟨rfl, hb7⟩
          have J7 := (unhide HJ6).below hb7
          have HC7 := hide (And.intro ((unhide HC6).1.below hb7) (unhide HC6).2)
          have HCu := hide ((Cut_in J7.kn.nl J7.hp (unhide HX).num x.at_).mono (fun e W h => J7.call h))
          obtain ⟨E2, hE2⟩ : ∃ E, cutE s2 x.num x.at_ = E := ⟨_, rfl⟩
          obtain ⟨s3, hs3⟩ : ∃ s3, cutS s2 x.num x.at_ = s3 := ⟨_, rfl⟩
          rw [hE2, hs3] at HCu
          have HE2 := hide hE2
          have Hs3 := hide hs3
          have HGd2 := hide J7.kn.nl.gd
          obtain ⟨_, qy1, _, _, qy4, _⟩ := J7.y
          clear HCp HJ6 HC6 J7 hb7 hE2 hs3
          go_wp2_with fail
          refine (unhide HCu).mono ?_
          rintro e V5 ⟨rfl, S3, J8, D8⟩
          have hC8 := (unhide HC7).1.dn D8 (unhide HC7).2.2
          have HJ8 := hide J8
          have HC8 := hide (And.intro hC8.1 (And.intro (unhide HC7).2.1 hC8.2))
          clear HCu J8 D8 hC8 HC7 qy1 qy4 hq2
          go_upto_if 140 with fail
          go_cut [10] from 141 to 159 (fun v wx => v = .int .i64 E2 ∧ Hid (Below V5.heap.size V5 wx))
          case first =>
            cases hf : fnd s.ls x.num with
            | none =>
              have h1 : AT = -1 := by rw [← unhide HAT]; exact atI_none hf _
              have h2 : E2 = 11 := by
                have e1 : s2 = s := by rw [← unhide Hs2]; exact altS_no (by unfold altE; rw [hf]; simp)
                rw [← unhide HE2, e1]; unfold cutE; rw [hf]
              clear hf
              subst h1 h2
              go_wp2
              go_meet
              case rel => exact ⟨rfl, hide (Below.refl _ _)⟩
            | some c =>
              obtain ⟨j, hj, hjc, hat⟩ := atI_some (unhide HGd).ris hf
              have h1 : AT = (j : Int) := by rw [← unhide HAT]; exact hat _ (by rw [← unhide Hm]; exact hj) (by rw [← unhide Hm]; exact Nat.le_refl _)
              subst h1
              have hji : j < i := by rw [← unhide Hm]; exact hj
              have hji' : (j : Int) < (i : Int) := by omega
              obtain ⟨d, hd, hdk⟩ := alt_place (a := x.at_) (y := x.dat) hjc (fnd_num hf)
              rw [unhide Hs2] at hd
              have hf2 : fnd s2.ls x.num = some d := by rw [← hdk]; exact fnd_of (unhide HGd2).ris (List.mem_of_getElem? hd)
              obtain ⟨y, hy, hyc⟩ : ∃ y, L2[j]? = some y ∧ y.1 = d := by
                have e := hd
                rw [← (unhide HC8).2.1, List.getElem?_map] at e
                cases hy : L2[j]? with
                | none => rw [hy] at e; cases e
                | some y => rw [hy] at e; exact ⟨y, rfl, Option.some.inj e⟩
              have hR1 := (unhide HC8).1.rcp (CL.len (unhide HGd2) (unhide HC8).2.1)
              obtain ⟨g3, o3, ea, _, _, _, _, u3, _, u5⟩ := hR1.at hy
              obtain ⟨rd3, ld3⟩ := hR1.dat y (List.mem_of_getElem? hy)
              obtain ⟨c', v3⟩ := y
              simp only at rd3 ld3 u3 u5 hyc
              subst hyc
              obtain ⟨a3, k3, e3⟩ := rd3.form
              subst e3 ea
              obtain ⟨_, _, _, _, qy4, _⟩ := (unhide HJ8).y
              have hE : E2 = if fitC c' x.at_ = true then (if c'.bad = true then 12 else 0) else 1 := by rw [← unhide HE2]; unfold cutE; rw [hf2]
              obtain ⟨F, hF⟩ : ∃ F, fitC c' x.at_ = F := ⟨_, rfl⟩
              rw [hF] at hE
              have HEE := hide hE
              unfold fitC at hF
              obtain ⟨D, hD⟩ : ∃ D, c'.dat.length = D := ⟨_, rfl⟩
              rw [hD] at hF u3 rd3 ld3
              have u5' := hide (fun V (hV : Below V5.heap.size V5 V) => cell_below u5 hV)
              clear hE hf hf2 hjc hd hdk hat hy hR1 u5
              go_upto_region 33 with fail
              go_cut [154] from 141 to 154 (fun v wx => v = .bool (!F) ∧ Hid (Below V5.heap.size V5 wx))
              case first =>
                have mixed : Try.prog.follows .mixedOrders = true := by kernel_rfl
                have hne := BelowOf.ne V5
                have m4 : ∀ q : BelowOf V5, q.w.cell? ⟨W.heap.size, 4, none⟩ = some (.int .i64 x.at_) := fun q => cell_below qy4 q.h
                have m3 : ∀ q : BelowOf V5, q.w.cell? ⟨g3, o3 + j * 6 + 3, none⟩ = some (.slice a3 D k3) := fun q => cell_below u3 q.h
                have HBy : Hid (∀ q : BelowOf V5, True) := fun _ => trivial
                by_cases c3 : x.at_ < 0
                · have HFF : Hid (F = false) := hide (by rw [← hF, decide_eq_false (by omega)])
                  have d3 : decide (x.at_ < 0) = true := decide_eq_true c3
                  clear hF rd3 u3 qy4
                  refine wp_region_quiet_below mixed (by kernel_rfl) ?_
                  repeat (any_goals (first | go_big_quiet_step ((go_at_call 25; exact below_of (unhide HBy _))) | quiet_step ((go_at_call 25; exact below_of (unhide HBy _)))))
                  all_goals (refine wpQuiet_nil ?_; intro _ hw'; obtain ⟨q, hw''⟩ := hw'; subst hw'')
                  all_goals (
                    have HB9 := hide q.h
                    clear m4 m3
                    go_wp2
                    go_meet
                    case rel => exact ⟨by rw [unhide HFF]; rfl, HB9⟩)
                by_cases c4 : (D : Int) ≤ x.at_
                · have HFF : Hid (F = false) := hide (by rw [← hF, decide_eq_false (by omega)])
                  have d3 : decide (x.at_ < 0) = false := decide_eq_false c3
                  have d4 : decide ((D : Int) ≤ x.at_) = true := decide_eq_true c4
                  clear hF rd3 u3 qy4
                  refine wp_region_quiet_below mixed (by kernel_rfl) ?_
                  repeat (any_goals (first | go_big_quiet_step ((go_at_call 25; exact below_of (unhide HBy _))) | quiet_step ((go_at_call 25; exact below_of (unhide HBy _)))))
                  all_goals (refine wpQuiet_nil ?_; intro _ hw'; obtain ⟨q, hw''⟩ := hw'; subst hw'')
                  all_goals (
                    have HB9 := hide q.h
                    clear m4 m3
                    go_wp2
                    go_meet
                    case rel => exact ⟨by rw [unhide HFF]; rfl, HB9⟩)
                · have HFF : Hid (F = true) := hide (by rw [← hF, decide_eq_true (by omega)])
                  have d3 : decide (x.at_ < 0) = false := decide_eq_false c3
                  have d4 : decide ((D : Int) ≤ x.at_) = false := decide_eq_false c4
                  clear hF rd3 u3 qy4
                  refine wp_region_quiet_below mixed (by kernel_rfl) ?_
                  repeat (any_goals (first | go_big_quiet_step ((go_at_call 25; exact below_of (unhide HBy _))) | quiet_step ((go_at_call 25; exact below_of (unhide HBy _)))))
                  all_goals (refine wpQuiet_nil ?_; intro _ hw'; obtain ⟨q, hw''⟩ := hw'; subst hw'')
                  all_goals (
                    have HB9 := hide q.h
                    clear m4 m3
                    go_wp2
                    go_meet
                    case rel => exact ⟨by rw [unhide HFF]; rfl, HB9⟩)
              obtain ⟨rfl, HB5⟩ := hcut
              rename_i hKx
              refine hKx _ _ ?_
              clear hKx hF rd3 u3 qy4
              have u5 := unhide u5' wc (unhide HB5)
              clear u5'
              cases F with
              | false =>
                have h2 : E2 = 1 := by simpa using unhide HEE
                subst h2
                go_wp2
                go_meet
                case rel => exact ⟨rfl, HB5⟩
              | true =>
                cases hbd : c'.bad with
                | true =>
                  have h2 : E2 = 12 := by simpa [hbd] using unhide HEE
                  rw [hbd] at u5
                  subst h2
                  go_wp2
                  go_meet
                  case rel => exact ⟨rfl, HB5⟩
                | false =>
                  have h2 : E2 = 0 := by simpa [hbd] using unhide HEE
                  rw [hbd] at u5
                  subst h2
                  go_wp2
                  go_meet
                  case rel => exact ⟨rfl, HB5⟩
          obtain ⟨rfl, HB9⟩ := hcut
          have J9 := (unhide HJ8).below (unhide HB9)
          have HC9 := hide (And.intro ((unhide HC8).1.below (unhide HB9)) (unhide HC8).2)
          have hl3 : s3.ls.length = i := by rw [← unhide Hs3, cut_len, unhide Hl2]
          have Hl3 := hide hl3
          have HJ9 := hide J9
          have HCo := hide (Copies_in J9.kn.nl)
          unfold CopA at HCo
          rw [hl3] at HCo
          clear HJ8 HC8 HB9 J9 hl3
          go_wp2_with fail
          refine (unhide HCo).mono ?_
          rintro e V6 ⟨a7, k7, L3, rfl, hL3, hC10, hb10⟩
          have J10 := (unhide HJ9).below hb10
          have hC9 := (unhide HC9).1.below hb10
          have hl3 : L3.length = i := by rw [← unhide Hl3, ← hL3, List.length_map]
          have HCp := hide (copies_in (L := L3) (M := L2) a7 a5 k7 k5 V6 (by rw [hl3]; exact hC10.rcp (CL.len J10.kn.nl.gd hL3)) (by rw [unhide HL2]; exact hC9.rcp (CL.len (unhide HGd2) (unhide HC9).2.1)) (by omega) (by rw [unhide HL2]; omega))
          rw [hL3, (unhide HC9).2.1, hl3, unhide HL2] at HCp
          obtain ⟨R3, hR3⟩ : ∃ R, eqL s3.ls s2.ls = R := ⟨_, rfl⟩
          rw [hR3] at HCp
          have hq3 : ((E2 == 0) == R3) = false := by rw [← hR3, ← unhide Hs3, ← unhide HE2]; exact cut_eqs (unhide HGd2)
          have HJ10 := hide J10
          clear HCo J10 hC9 hl3 hC10 hL3 hb10 HJ9 hR3 HC9
          go_wp2_with fail
          refine (unhide HCp).mono ?_
          rintro e V7 ⟨rfl, hb11⟩
          have J11 := (unhide HJ10).below hb11
          have HJ11 := hide J11
          have SND : Hid (∀ (f t st : Int), sndB f t st = false → ∀ V S, RJ W W.heap.size x S V b s3 → Calls Try.prog 17 #[.pointer (some ⟨b, 0, none⟩), .int .i64 f, .int .i64 t, .slice av M cv, .int .i64 st] V fun e V' => e = .returned (.tuple #[.int .i64 0, .int .i64 1]) ∧ ∃ S', RJ W W.heap.size x S' V' b s3) := by
            intro f t st hb V S J
            have hxr := (unhide HX).rd.below J.kn.bel
            rw [(unhide HevM).1] at hxr
            have hc := Send_in J.kn.nl J.hp f t st (.slice av x.dat.length cv) x.dat hxr (by have := (unhide HevM).2; omega)
            rw [(unhide HevM).2] at hc
            refine hc.mono ?_
            intro e V' h
            rw [show sndS s3 f t x.dat st = s3 by unfold sndS; rw [hb]; rfl, show sndN s3 f t st = 0 by unfold sndN; rw [hb]; rfl, show sndE s3 f t st = 1 by unfold sndE; rw [hb]; rfl] at h
            obtain ⟨h1, S', J', _⟩ := J.call h
            exact ⟨h1, S', J'⟩
          have HS1 := hide (unhide SND x.frm x.frm x.at_ (by unfold sndB; exact decide_eq_false (fun e => e.2.2.1 rfl)) V7 _ J11)
          have QY : Hid (∀ V S, RJ W W.heap.size x S V b s3 → V.cell? ⟨W.heap.size, 2, none⟩ = some (.int .i64 x.frm) ∧ V.cell? ⟨W.heap.size, 4, none⟩ = some (.int .i64 x.at_) ∧ V.cell? ⟨W.heap.size, 5, none⟩ = some (.slice av M cv)) := fun V S J => ⟨J.y.2.2.1, J.y.2.2.2.2.1, by have := J.y.2.2.2.2.2; rw [(unhide HevM).1, (unhide HevM).2] at this; exact this⟩
          obtain ⟨q2, q4, q5⟩ := unhide QY V7 _ J11
          clear HCp HJ10 J11 hb11
          go_wp2_with fail
          refine (unhide HS1).mono ?_
          rintro e V8 ⟨rfl, S8, J12⟩
          have HS2 := hide (unhide SND x.frm 0 x.at_ (by unfold sndB; exact decide_eq_false (fun e => by have := e.2.1.1; omega)) V8 _ J12)
          clear q2 q4 q5
          obtain ⟨q2, q4, q5⟩ := unhide QY V8 _ J12
          clear HS1 J12 HJ11 hq3
          go_wp2_with fail
          refine (unhide HS2).mono ?_
          rintro e V9 ⟨rfl, S9, J13⟩
          have HS3 := hide (unhide SND 1 2 (-1) (by unfold sndB; exact decide_eq_false (fun e => by have := e.2.2.2; omega)) V9 _ J13)
          clear q2 q4 q5
          obtain ⟨q2, q4, q5⟩ := unhide QY V9 _ J13
          clear HS2 J13
          go_wp2_with fail
          refine (unhide HS3).mono ?_
          rintro e V10 ⟨rfl, S10, J14⟩
          have HCo := hide (Copies_in J14.kn.nl)
          unfold CopA at HCo
          rw [unhide Hl3] at HCo
          have HJ14 := hide J14
          clear HS3 J14 q2 q4 q5 SND QY
          go_wp2_with fail
          refine (unhide HCo).mono ?_
          rintro e V11 ⟨a9, k9, L9, rfl, _, _, hb12⟩
          have HBe := hide (bnext (unhide HJ14).kn.bel hb12)
          have HKn := hide (known_in V11)
          clear HCo HJ14 hb12
          go_wp2_with fail
          refine (unhide HKn).mono ?_
          rintro e V12 ⟨rfl, hb13⟩
          have HB := hide (bnext (unhide HBe) hb13)
          clear HKn HBe hb13
          go_wp2
          go_ret
          exact ⟨rfl, unhide HB⟩


theorem own : ownKnob Try.prog.godebug = none := by kernel_rfl
theorem laidOut2 : laidOutB Try.prog = true := by kernel_rfl

set_option maxRecDepth 100000 in
theorem lifted (os : Os) (started : os.Started) (H : Type) (enc : TypeId × Value → H) :
    ReturnsInHanded {} Try.checked os 8 .any (Rows.netRefusedSpec.pre6 enc Try.prog Try.f8 Rows.netRefusedRow.domain false) (Rows.netRefusedSpec.post enc Try.prog Try.f8 false true false false) := by
  refine returnsInHanded_of_change (C := Try.checked) own started (by kernel_rfl) Try.func8
    (ChangeSpec.witness6 (enc := enc) (C := Try.checked) false ⟨#[], #[.slice none 0 0, .agg #[.int .i64 0, .int .i64 0, .int .i64 0, .int .i64 0, .int .i64 0, .slice none 0 0]], []⟩ 8 (by kernel_rfl) (by kernel_rfl) (by kernel_rfl) (by kernel_rfl)) ?_
  intro W base args ds gs before hval0 hW hcnd _
  have hval : ∀ (j : Nat) t v, Try.f8.params[j]? = some t → args[j]? = some v → Value.okWide Try.prog W .any base t v := hval0
  have hW' := hW
  obtain ⟨p, q, hA0, hV, rfl, hfz, hnd⟩ := hW
  have hA : DataW.TrodAll enc Try.prog W 0 (fun _ => true) true Try.f8.params.toList args.toList ds p := hA0
  rw [Try.params8] at hA hval
  obtain ⟨v0, vs0, d0, ds0, p0, q0, hargs, rfl, rfl, h0, r0⟩ := trodAll_cons hA
  obtain ⟨v1, vs1, d1, ds1, p1, q1, rfl, rfl, rfl, h1, r1⟩ := trodAll_cons r0
  obtain ⟨rfl, rfl, rfl⟩ := trodAll_nil r1
  obtain rfl : args = #[v0, v1] := by cases args; simp_all
  obtain ⟨rfl, rfl⟩ := trodVars_none hV
  obtain ⟨a0, len0, cap0, rfl⟩ := okWide_slice Try.underlying22 (hval 0 22 v0 rfl rfl)
  have k0 := h0
  have lt0 : ∀ x ∈ p0, x.block < W.heap.size := by obtain ⟨m, hm⟩ := k0; exact DataW.trod_lt m _ _ _ hm
  obtain ⟨z0, w0⟩ : ∃ l : List Stp, RSt W (.slice a0 len0 cap0) l ∧ l.length = len0 ∧ len0 ≤ maxLen ∧ ∀ e ∈ l, StW W e := by
    obtain ⟨fuel, hf⟩ := h0
    simp only [Value.cells] at hf
    exact open_steps hf
  have k1 := h1
  have lt1 : ∀ x ∈ p1, x.block < W.heap.size := by obtain ⟨m, hm⟩ := k1; exact DataW.trod_lt m _ _ _ hm
  obtain ⟨a1, rfl, w1⟩ := open_step (hval 1 32 v1 rfl rfl) h1
  clear hA0 hval0
  refine (walk a0 len0 cap0 z0 a1 W w0 w1).mono fun e W' ⟨he, bel⟩ => ?_
  subst he
  exact ⟨_, rfl, _, _, _, [], _, [], hW', trodAll_mk1 (shut_bool Try.underlying4 _), (trodAll_cons_mk (Below.trod laidOut2 (by kernel_rfl) (of_decide_eq_true (by kernel_rfl)) k0 bel lt0) (trodAll_cons_mk (Below.trod laidOut2 (by kernel_rfl) (of_decide_eq_true (by kernel_rfl)) k1 bel lt1) trodAll_mk0)), rfl, bel.frame _, fun h => by cases h⟩

theorem over : Rows.netRefusedRow.holds Try.pinned (OpenSpec.ofChange Rows.netRefusedSpec) :=
  OpenClaim.holds_of_wide 8 Try.f8 rfl rfl rfl rfl rfl rfl rfl ⟨rfl, rfl, rfl, rfl, rfl⟩ rfl rfl rfl rfl rfl (by kernel_rfl) Try.func8 (by kernel_rfl)
    (of_decide_eq_true (by kernel_rfl)) (by unfold Func.isWrapper; first | (rw [if_pos (by decide +kernel)]; kernel_rfl) | (rw [if_neg (by decide +kernel)]; exact ⟨rfl, rfl⟩))
    (fun os started H enc _ => lifted os started H enc)

end LNetRefused

theorem netRefused_holds : Rows.NetRefusedSaid := LNetRefused.over

end Go.Proofs.Ytfminifjnjfocaa
