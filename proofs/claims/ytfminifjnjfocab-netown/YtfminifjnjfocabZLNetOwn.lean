/-
  Chapter 20's law NetOwn returns true for every script, and leaves its argument as it was; no condition.
-/
import Derived.Test.YtfminifjnjfocabRows
import Derived.WalkKit
import Derived.ProofKit
import Derived.OpenShut
import Derived.ShutString
import Derived.ChangeOld
import Derived.Below
import Derived.Test.YtfminifjnjfocabZOB
import Derived.Deep.CutRange
set_option linter.unusedVariables false
set_option linter.unusedSimpArgs false
namespace Go.Proofs.Ytfminifjnjfocab
namespace LNetOwn
open Go.ChangeShapes Go.WideShapes Go.ChangeAt Go.RowKit Go.Lib
open Go.ChangeMaps (open_string shut_string)

open Go.RowKit Go.Lib
def colV (k : Nat) : Int := IntKind.u8.wrap ((k : Int) + 1)
set_option maxRecDepth 100000 in
set_option maxHeartbeats 16000000 in
theorem walk (a : Option Addr) (len cap : Nat) (z : List Stp) (W : World) (h : RSt W (.slice a len cap) z ∧ z.length = len ∧ len ≤ maxLen ∧ ∀ e ∈ z, StW W e) : Calls Try.prog 3 #[.slice a len cap] W fun e W' => e = .returned (.bool true) ∧ Below W.heap.size W W' := by
  obtain ⟨hR, hl, hm, hS⟩ := h
  subst hl
  have HR := hide hR
  have HSt := hide hS
  have HMu := hide (much_in z a cap W hR hS (by unfold maxLen at hm; omega))
  have HK := hide (known_in W)
  have HN := hide (fun V => New_in V)
  obtain ⟨n, hn⟩ : ∃ n, z.length = n := ⟨_, rfl⟩
  have Hn := hide hn
  rw [hn] at HMu ⊢
  clear hn hR hS hm
  go_enter Try.func3, Try.ntmps3
  go_wp2_with fail
  refine (unhide HMu).mono ?_
  rintro e W1 ⟨R, rfl, hsm, rfl⟩
  clear HMu
  cases R with
  | true =>
    clear hsm HN
    go_wp2_with fail
    refine (unhide HK).mono ?_
    rintro e W2 ⟨rfl, hb⟩
    have HB := hide hb
    clear hb HK
    go_wp2
    go_ret
    exact ⟨rfl, unhide HB⟩
  | false =>
    have HSm := hide (hsm rfl)
    have hn2 : n ≤ 200 := by have := (unhide HSm).1; rw [unhide Hn] at this; exact this
    clear hsm HK
    go_wp2_with fail
    refine (unhide HN _).mono ?_
    rintro e W2 ⟨rfl, hnl, hb⟩
    have KA := hide (KN.new W (Below.refl _ _) hnl hb)
    clear hnl hb
    go_wp2_with fail
    refine (unhide HN _).mono ?_
    rintro e W3 ⟨rfl, hnl, hb⟩
    have J0 : Hid (∃ S T, TN W S T W3 W.heap.size W2.heap.size zerS zerS) := hide ⟨_, _, (unhide KA).below hb, KN.new W (unhide KA).bel hnl hb, fun i h1 h2 => by have := h1.2; have := h2.1; omega⟩
    generalize hba : W.heap.size = ba at J0 ⊢
    generalize hbb : W2.heap.size = bb at J0 ⊢
    have HBA := hide hba
    clear HN hnl hb hba hbb KA
    go_wp2
    go_loopw [5] (fun iv wr => ∃ i : Nat, i ≤ n ∧ iv = .int .i64 (i : Nat) ∧ Hid (∃ S T s, TN W S T wr ba bb s s)) (fun iv _ => n - (RowKit.intOf iv).toNat)
    case atStart =>
      obtain ⟨S, T, h⟩ := unhide J0
      exact ⟨0, Nat.zero_le _, rfl, hide ⟨S, T, _, h⟩⟩
    case round =>
      obtain ⟨i, hi, rfl, HI⟩ := hrel
      clear J0
      by_cases hlt : i < n
      · have hlt' : (i : Int) < (n : Int) := by omega
        obtain ⟨S, T, s, J⟩ := unhide HI
        obtain ⟨e0, he0⟩ : ∃ e0, z[i]? = some e0 := ⟨_, List.getElem?_eq_getElem (by rw [unhide Hn]; exact hlt)⟩
        have hmem := List.mem_of_getElem? he0
        have rr := (unhide HR).below J.a.bel
        rw [show (Value.slice a z.length cap) = .slice a n cap by rw [unhide Hn]] at rr
        obtain ⟨bs, os, rfl, _, u0, u1, u2, u3, u4, u5⟩ := rr.at he0
        have hst := unhide HSt e0 hmem
        have hdl := (unhide HSm).2 e0 hmem
        obtain ⟨ae, ce, ee⟩ := hst.fd
        obtain ⟨ne, hne⟩ : ∃ ne, e0.dat.length = ne := ⟨_, rfl⟩
        have HDA := hide ((do_in J.a.nl (fun i hi => (J.a.lo i hi).2) e0 (hst.below J.a.bel) (by omega)).mono (fun e W h => J.call h))
        have HRow := hide (fun V (hV : Below W.heap.size W V) => ((unhide HR).below hV).at he0)
        have HDB := hide (fun V S T (J : TN W S T V ba bb (doS s e0) s) => (do_in J.b.nl (fun i hi => (J.b.lo i hi).2) e0 (hst.below J.b.bel) (by omega)).mono (fun e W h => J.swap.call h))
        unfold stC at HDA HDB
        rw [ee, hne] at u5 HDA HDB
        have Hee := hide (And.intro ee hne)
        obtain ⟨s2, hs2⟩ : ∃ s2, doS s e0 = s2 := ⟨_, rfl⟩
        obtain ⟨N, hN⟩ : ∃ N, doN s e0 = N := ⟨_, rfl⟩
        rw [hs2, hN] at HDA HDB
        clear J he0 hmem rr hst hdl ee hne HI hs2 hN
        go_wp2_with fail
        refine (unhide HDA).mono ?_
        rintro e V1 ⟨rfl, S1, J1⟩
        have HDB1 := hide (unhide HDB V1 S1 T J1)
        obtain ⟨bs', os', ebs, _, w0, w1, w2, w3, w4, w5⟩ := unhide HRow V1 J1.a.bel
        simp only [Option.some.injEq, Addr.mk.injEq, and_true] at ebs
        obtain ⟨rfl, rfl⟩ := ebs
        rw [(unhide Hee).1, (unhide Hee).2] at w5
        clear HDA HDB J1 u0 u1 u2 u3 u4 u5 HRow
        go_wp2_with fail
        refine (unhide HDB1).mono ?_
        rintro e V2 ⟨rfl, T1, J2⟩
        have J2 := J2.swap
        obtain ⟨m, hm⟩ : ∃ m, s2.ls.length = m := ⟨_, rfl⟩
        have hmb := J2.a.nl.gd.len
        have hmb2 := J2.a.nl.gd.l1
        have HCo := hide (Copies_in J2.a.nl)
        have HGd := hide J2.a.nl.gd
        have HJ2 := hide J2
        have Hm := hide hm
        have hmb' : m ≤ 2147483647 := by omega
        unfold CopA at HCo
        rw [hm] at HCo
        clear HDB1 J2 w0 w1 w2 w3 w4 w5 hm hmb hmb2
        go_wp2_with fail
        refine (unhide HCo).mono ?_
        rintro e V3 ⟨a3, k3, L, rfl, hL, hCL, hb3⟩
        obtain ⟨B, hB⟩ : ∃ B, V2.heap.size = B := ⟨_, rfl⟩
        have hll : L.length = m := by rw [← unhide Hm, ← hL, List.length_map]
        have WS0 : Hid (∃ D, WS W S1 T1 ba bb s2 B (.slice a3 m k3) L D V3 ∧ ∀ q, (D q).length ≤ 1000000) := by
          rw [hB] at hCL
          refine hide ⟨_, ⟨(unhide HJ2).below hb3, OL.of hCL, fun i hi => by rw [← hB]; exact ((unhide HJ2).a.lo i hi).2, fun i hi => by rw [← hB]; exact ((unhide HJ2).b.lo i hi).2, by rw [← hB]; exact (unhide HJ2).a.bel.size, by rw [← hB]; exact hb3.size⟩, fun q => ?_⟩
          cases hq : L[q]? with
          | none => simp [hq]
          | some x => simpa [hq] using CL.len (unhide HGd) hL x (List.mem_of_getElem? hq)
        have Hll := hide hll
        clear HCo HJ2 hCL hL hb3 hll hB
        go_wp2
        go_loopw [7] (fun kv wr => ∃ k : Nat, k ≤ m ∧ kv = .int .i64 (k : Nat) ∧ Hid (∃ D, WS W S1 T1 ba bb s2 B (.slice a3 m k3) L D wr ∧ (∀ q, (D q).length ≤ 1000000) ∧ ∀ q, q < k → Fc (D q) (D q).length (colV q))) (fun kv _ => m - (RowKit.intOf kv).toNat)
        case atStart =>
          obtain ⟨D, h1, h2⟩ := unhide WS0
          exact ⟨0, Nat.zero_le _, rfl, hide ⟨D, h1, h2, fun q hq => by omega⟩⟩
        case round =>
          obtain ⟨k, hk, rfl, HI2⟩ := hrel
          clear WS0
          by_cases hkl : k < m
          · have hkl' : (k : Int) < (m : Int) := by omega
            obtain ⟨x, hx⟩ : ∃ x, L[k]? = some x := ⟨_, List.getElem?_eq_getElem (by rw [unhide Hll]; exact hkl)⟩
            have Hx := hide hx
            obtain ⟨D, h1, h2, h3⟩ := unhide HI2
            obtain ⟨nx, hnx⟩ : ∃ nx, (D k).length = nx := ⟨_, rfl⟩
            have hnxb : nx ≤ 1000000 := by rw [← hnx]; exact h2 k
            obtain ⟨ax, cx, ex⟩ := (h1.ol.dat k x hx).form
            rw [hnx] at ex
            have Hex := hide ex
            have I0 : Hid (∃ D, WS W S1 T1 ba bb s2 B (.slice a3 m k3) L D wr ∧ (∀ q, (D q).length ≤ 1000000) ∧ (∀ q, q < k → Fc (D q) (D q).length (colV q)) ∧ (D k).length = nx ∧ Fc (D k) 0 (colV k)) := hide ⟨D, h1, h2, h3, hnx, fun q hq => by omega⟩
            clear h1 h2 h3 hnx hx HI2 ex
            go_wp2
            go_loopw [8] (fun jv wr => ∃ j : Nat, j ≤ nx ∧ jv = .int .i64 (j : Nat) ∧ Hid (∃ D, WS W S1 T1 ba bb s2 B (.slice a3 m k3) L D wr ∧ (∀ q, (D q).length ≤ 1000000) ∧ (∀ q, q < k → Fc (D q) (D q).length (colV q)) ∧ (D k).length = nx ∧ Fc (D k) j (colV k))) (fun jv _ => nx - (RowKit.intOf jv).toNat)
            case atStart => exact ⟨0, Nat.zero_le _, rfl, I0⟩
            case round =>
              obtain ⟨j, hj, rfl, HI3⟩ := hrel
              clear I0
              obtain ⟨D, h1, h2, h3, h4, h5⟩ := unhide HI3
              obtain ⟨g3, e3, c3, _, _, _⟩ := h1.ol.at (unhide Hx)
              rw [unhide Hex] at c3
              subst e3
              by_cases hjl : j < nx
              · have hjl' : (j : Int) < (nx : Int) := by omega
                obtain ⟨g4, k4, u4, e4, c4, f4, hb4, o4, kp4⟩ := h1.ol.put (unhide Hx) (j := j) (by rw [h4]; exact hjl) (colV k)
                rw [unhide Hex] at e4
                simp only [Value.slice.injEq] at e4
                obtain ⟨e41, _, e43⟩ := e4
                have FIN : Hid (∃ D, WS W S1 T1 ba bb s2 B (.slice (some ⟨g3, 0, none⟩) m k3) L D (wr.setCell ⟨g4, j, none⟩ (.int .u8 (colV k))) ∧ (∀ q, (D q).length ≤ 1000000) ∧ (∀ q, q < k → Fc (D q) (D q).length (colV q)) ∧ (D k).length = nx ∧ Fc (D k) (j + 1) (colV k)) := by
                  refine hide ⟨_, h1.kp (kp4.wk (fun q hq => by rw [hq]; exact hb4)) o4, fun q => ?_, fun q hq => ?_, ?_, ?_⟩
                  · unfold updD; split; rw [List.length_set]; rename_i e; subst e; exact h2 _; exact h2 q
                  · unfold updD; rw [if_neg (by omega)]; exact h3 q hq
                  · unfold updD; rw [if_pos rfl, List.length_set]; exact h4
                  · unfold updD; rw [if_pos rfl]; exact h5.set (by rw [h4]; exact hjl)
                subst e41
                clear h1 h2 h3 h4 h5 o4 kp4 HI3 e43
                unfold colV at FIN
                go_wp2
                go_roundw
                case rel => exact ⟨j + 1, by omega, by go_num, FIN⟩
                case measure => show nx - ((j : Int) + 1).toNat < nx - ((j : Nat) : Int).toNat; omega
              · obtain rfl : j = nx := by omega
                have hjl' : ¬ (j : Int) < (j : Int) := by omega
                have FIN : Hid (∃ D, WS W S1 T1 ba bb s2 B (.slice (some ⟨g3, 0, none⟩) m k3) L D wr ∧ (∀ q, (D q).length ≤ 1000000) ∧ ∀ q, q < k + 1 → Fc (D q) (D q).length (colV q)) := hide ⟨D, h1, h2, fun q hq => by
                  by_cases e : q = k
                  · subst e; rw [h4]; exact h5
                  · exact h3 q (by omega)⟩
                clear h1 h2 h3 h4 h5 HI3
                go_wp2
                go_roundw
                case rel => exact ⟨k + 1, by omega, by go_num, FIN⟩
                case measure => show m - ((k : Int) + 1).toNat < m - ((k : Nat) : Int).toNat; omega
          · obtain rfl : k = m := by omega
            have hkl' : ¬ (k : Int) < (k : Int) := by omega
            obtain ⟨D, h1, h2, h3⟩ := unhide HI2
            obtain ⟨X5, hX5⟩ : ∃ X, wr.alloc (.cells #[.int .i64 (-1), .int .i64 0, .int .i64 0, .slice none 0 0, .int .i64 0, .bool false] 34) = X := ⟨_, rfl⟩
            obtain ⟨a5, c5, Y5, r5, o5, kp5⟩ := h1.ol.app (unhide Hll).symm h1.lB (by rw [unhide Hll]; exact hmb') 31 hX5
            have W4 : Hid (∃ L' D, WS W S1 T1 ba bb s2 B (.slice a3 k k3) L' D Y5 ∧ L'.length = k ∧ (∀ q, 0 ≤ q → q < k → (D q).length ≤ 1000000 ∧ Fc (D q) (D q).length (colV q))) := hide ⟨L, D, h1.kp kp5 o5, unhide Hll, fun q _ hq => ⟨h2 q, h3 q hq⟩⟩
            have HR5 := hide r5
            clear h1 h2 h3 o5 kp5 r5 HI2 Hll hk hkl
            go_wp2_with (at_builtin; refine wpList_append_eq rfl _ _ 31 31 rfl _ _ _ _ rfl rfl (unhide HR5) ?_)
            clear HR5 hX5
            go_loopw [10] (fun kv wr => ∃ t : Nat, t ≤ k ∧ kv = .int .i64 (t : Nat) ∧ Hid (∃ L' D, WS W S1 T1 ba bb s2 B (.slice a3 k k3) L' D wr ∧ L'.length = k ∧ (∀ q, t ≤ q → q < k → (D q).length ≤ 1000000 ∧ Fc (D q) (D q).length (colV q)))) (fun kv _ => k - (RowKit.intOf kv).toNat)
            case atStart => exact ⟨0, Nat.zero_le _, rfl, W4⟩
            case round =>
              obtain ⟨t, ht, rfl, HI4⟩ := hrel
              clear W4
              by_cases htl : t < k
              · have htl' : (t : Int) < (k : Int) := by omega
                obtain ⟨L', D, h1, h2, h3⟩ := unhide HI4
                obtain ⟨x, hx⟩ : ∃ x, L'[t]? = some x := ⟨_, List.getElem?_eq_getElem (by rw [h2]; exact htl)⟩
                obtain ⟨hd1, hd2⟩ := h3 t (Nat.le_refl _) htl
                obtain ⟨nk, hnk⟩ : ∃ nk, (D t).length = nk := ⟨_, rfl⟩
                obtain ⟨g3, e3, c3, -, -, -⟩ := h1.ol.at hx
                obtain ⟨ax, cx, ex⟩ := (h1.ol.dat t x hx).form
                rw [hnk] at ex
                rw [ex] at c3
                subst e3
                obtain ⟨X6, hX6⟩ : ∃ X, wr.alloc (.cells #[.int .u8 200] 5) = X := ⟨_, rfl⟩
                obtain ⟨g6, a6, c6, Y6, e6, r6, ⟨u6, cu6⟩, f6, o6, kp6⟩ := h1.ol.go h1.lB hx hd1 200 28 hX6
                cases e6
                rw [ex] at r6
                rw [hnk] at r6 o6 kp6
                obtain ⟨Z6, hZ6⟩ : ∃ Z, Y6.setCell ⟨g3, t * 6 + 3, none⟩ (.slice a6 (nk + 1) c6) = Z := ⟨_, rfl⟩
                rw [hZ6] at o6 kp6
                have h6 := h1.kp kp6 o6
                have hxs : (L'.set t (x.1, .slice a6 (nk + 1) c6))[t]? = some (x.1, .slice a6 (nk + 1) c6) := List.getElem?_set_self (by rw [h2]; exact htl)
                obtain ⟨g7, e7, c7, -, -, -⟩ := h6.ol.at hxs
                cases e7
                simp only at c7
                have dat6 := h6.ol.dat t _ hxs
                have eD : updD D t (D t ++ [200]) t = D t ++ [200] := by unfold updD; rw [if_pos rfl]
                rw [eD] at dat6
                have HBy : Hid (∀ j, j < nk → ∃ gb ob, a6 = some ⟨gb, ob, none⟩ ∧ Z6.cell? ⟨gb, ob + j, none⟩ = some (.int .u8 (colV t))) := fun j hj => by
                  obtain ⟨gb, ob, e, _, hc⟩ := dat6.row.at (i := j) (x := colV t) (by rw [List.getElem?_append_left (by omega)]; exact hd2 j (by omega))
                  exact ⟨gb, ob, e, hc⟩
                have FIN : Hid (∃ L' D, WS W S1 T1 ba bb s2 B (.slice (some ⟨g3, 0, none⟩) k k3) L' D Z6 ∧ L'.length = k ∧ (∀ q, t + 1 ≤ q → q < k → (D q).length ≤ 1000000 ∧ Fc (D q) (D q).length (colV q))) := hide ⟨_, _, h6, by rw [List.length_set]; exact h2, fun q hq1 hq2 => by unfold updD; rw [if_neg (by omega)]; exact h3 q (by omega) hq2⟩
                have HR6 := hide r6
                have hnkb : nk ≤ 1000000 := by omega
                clear h1 h2 h3 hd1 hd2 hnk hx ex o6 kp6 h6 hxs dat6 eD HI4 r6
                go_wp2_with (at_builtin; refine wpList_append_eq rfl _ _ 28 28 rfl _ _ _ _ rfl rfl (unhide HR6) ?_)
                clear HR6 hX6 cu6 f6 hZ6
                go_loopw [11] (fun jv wr => ∃ j : Nat, j ≤ nk ∧ jv = .int .i64 (j : Nat) ∧ Z6 = wr) (fun jv _ => nk - (RowKit.intOf jv).toNat)
                case atStart => exact ⟨0, Nat.zero_le _, rfl, rfl⟩
                case round =>
                  obtain ⟨j, hj, rfl, rfl⟩ := hrel
                  by_cases hjl : j < nk
                  · obtain ⟨gb, ob, eb, cb⟩ := unhide HBy j hjl
                    subst eb
                    have hj1 : (j : Int) + 1 < (nk : Int) + 1 := by omega
                    have hj2 : (j : Int) < (nk : Int) + 1 := by omega
                    have hj3 : j < nk + 1 := by omega
                    unfold colV at cb
                    go_wp2
                    go_roundw
                    case rel => exact ⟨j + 1, by omega, by go_num, by first | trivial | rfl⟩
                    case measure => show nk - ((j : Int) + 1).toNat < nk - ((j : Nat) : Int).toNat; omega
                  · obtain rfl : j = nk := by omega
                    have hj1 : ¬ (j : Int) + 1 < (j : Int) + 1 := by omega
                    clear HBy
                    go_wp2
                    go_roundw
                    case rel => exact ⟨t + 1, by omega, by go_num, FIN⟩
                    case measure => show k - ((t : Int) + 1).toNat < k - ((t : Nat) : Int).toNat; omega
              · obtain rfl : t = k := by omega
                have htl' : ¬ (t : Int) < (t : Int) := by omega
                obtain ⟨L', D, h1, h2, h3⟩ := unhide HI4
                have HT := hide h1.tn
                have HCa := hide (Copies_in h1.tn.a.nl)
                unfold CopA at HCa
                rw [unhide Hm] at HCa
                have hq0 : ((t : Int) + 1 != (t : Int) + 1) = false := by simp
                clear h1 h2 h3 HI4
                go_wp2_with fail
                refine (unhide HCa).mono ?_
                rintro e V7 ⟨a7, k7, L7, rfl, hL7, hC7, hb7⟩
                have T7 := (unhide HT).below hb7
                have HCb := hide (Copies_in T7.b.nl)
                unfold CopA at HCb
                rw [unhide Hm] at HCb
                have HT7 := hide T7
                have H7 := hide (And.intro hL7 hC7)
                clear HCa HT T7 hL7 hC7 hb7
                go_wp2_with fail
                refine (unhide HCb).mono ?_
                rintro e V8 ⟨a8, k8, L8, rfl, hL8, hC8, hb8⟩
                have T8 := (unhide HT7).below hb8
                have hl7 : L7.length = t := by rw [← unhide Hm, ← (unhide H7).1, List.length_map]
                have hl8 : L8.length = t := by rw [← unhide Hm, ← hL8, List.length_map]
                have HCp := hide (copies_in (L := L7) (M := L8) a7 a8 k7 k8 V8 (by rw [hl7]; exact ((unhide H7).2.below hb8).rcp (CL.len (unhide HGd) (unhide H7).1)) (by rw [hl8]; exact hC8.rcp (CL.len (unhide HGd) hL8)) (by omega) (by omega))
                rw [(unhide H7).1, hL8, eqL_self, hl7, hl8] at HCp
                have HT8 := hide T8
                clear HCb HT7 H7 T8 hl7 hl8 hL8 hC8 hb8
                go_wp2_with fail
                refine (unhide HCp).mono ?_
                rintro e V9 ⟨rfl, hb9⟩
                have FIN : Hid (∃ S T s, TN W S T V9 ba bb s s) := hide ⟨_, _, _, (unhide HT8).below hb9⟩
                clear HCp HT8 hb9
                go_wp2
                go_roundw
                case rel => exact ⟨i + 1, by omega, by go_num, FIN⟩
                case measure => show n - ((i : Int) + 1).toNat < n - ((i : Nat) : Int).toNat; omega
      · obtain rfl : i = n := by omega
        have hlt' : ¬ (i : Int) < (i : Int) := by omega
        clear hlt
        go_wp2
        go_loopw [12] (fun kv wr => ∃ t : Nat, 1 ≤ t ∧ t ≤ i + 1 ∧ kv = .int .i64 (t : Nat) ∧ Hid (∃ S T s, TN W S T wr ba bb s s)) (fun kv _ => i + 1 - (RowKit.intOf kv).toNat)
        case atStart => exact ⟨1, by omega, by omega, rfl, HI⟩
        case round =>
          obtain ⟨t, ht1, ht2, rfl, HI2⟩ := hrel
          clear HI
          obtain ⟨S, T, s, J⟩ := unhide HI2
          by_cases htl : t ≤ i
          · have htl' : (t : Int) ≤ (i : Int) := by omega
            have hin : in64 (t : Int) := ⟨by omega, by omega⟩
            have HDA := hide ((Double_in J.a.nl (fun i hi => (J.a.lo i hi).2) hin).mono (fun e W h => J.call h))
            have HDB := hide (fun V S T (J : TN W S T V ba bb (dblS s (t : Int)) s) => (Double_in J.b.nl (fun i hi => (J.b.lo i hi).2) hin).mono (fun e W h => J.swap.call h))
            unfold two at HDA HDB
            obtain ⟨s2, hs2⟩ : ∃ s2, dblS s (t : Int) = s2 := ⟨_, rfl⟩
            obtain ⟨N, hN⟩ : ∃ N, dblN s (t : Int) = N := ⟨_, rfl⟩
            obtain ⟨E, hE⟩ : ∃ E, dblE s (t : Int) = E := ⟨_, rfl⟩
            rw [hs2, hN, hE] at HDA HDB
            clear J HI2 hin hs2 hN hE
            go_wp2_with fail
            refine (unhide HDA).mono ?_
            rintro e V1 ⟨rfl, S1, J1⟩
            have HDB1 := hide (unhide HDB V1 S1 T J1)
            clear HDA HDB J1
            go_wp2_with fail
            refine (unhide HDB1).mono ?_
            rintro e V2 ⟨rfl, T1, J2⟩
            have FIN : Hid (∃ S T s, TN W S T V2 ba bb s s) := hide ⟨_, _, _, J2.swap⟩
            have q1 : (N != N) = false := by simp
            have q2 : (E != E) = false := by simp
            clear HDB1 J2
            go_wp2
            go_roundw
            case rel => exact ⟨t + 1, by omega, by omega, by go_num, FIN⟩
            case measure => show i + 1 - ((t : Int) + 1).toNat < i + 1 - ((t : Nat) : Int).toNat; omega
          · have htl' : ¬ (t : Int) ≤ (i : Int) := by omega
            obtain ⟨m, hm⟩ : ∃ m, s.ls.length = m := ⟨_, rfl⟩
            have hmb' := J.a.nl.gd.len'
            rw [hm] at hmb'
            have HGd := hide J.a.nl.gd
            have Hm := hide hm
            have HT := hide J
            have HCa := hide (Copies_in J.a.nl)
            unfold CopA at HCa
            rw [hm] at HCa
            clear J HI2 hm
            go_wp2_with fail
            refine (unhide HCa).mono ?_
            rintro e V7 ⟨a7, k7, L7, rfl, hL7, hC7, hb7⟩
            have T7 := (unhide HT).below hb7
            have HCb := hide (Copies_in T7.b.nl)
            unfold CopA at HCb
            rw [unhide Hm] at HCb
            have HT7 := hide T7
            have H7 := hide (And.intro hL7 hC7)
            clear HCa HT T7 hL7 hC7 hb7
            go_wp2_with fail
            refine (unhide HCb).mono ?_
            rintro e V8 ⟨a8, k8, L8, rfl, hL8, hC8, hb8⟩
            have T8 := (unhide HT7).below hb8
            have hl7 : L7.length = m := by rw [← unhide Hm, ← (unhide H7).1, List.length_map]
            have hl8 : L8.length = m := by rw [← unhide Hm, ← hL8, List.length_map]
            have HCp := hide (copies_in (L := L7) (M := L8) a7 a8 k7 k8 V8 (by rw [hl7]; exact ((unhide H7).2.below hb8).rcp (CL.len (unhide HGd) (unhide H7).1)) (by rw [hl8]; exact hC8.rcp (CL.len (unhide HGd) hL8)) (by omega) (by omega))
            rw [(unhide H7).1, hL8, eqL_self, hl7, hl8] at HCp
            have HT8 := hide T8
            clear HCb HT7 H7 T8 hl7 hl8 hL8 hC8 hb8
            go_wp2_with fail
            refine (unhide HCp).mono ?_
            rintro e V9 ⟨rfl, hb9⟩
            have HBe := hide (bnext (unhide HT8).a.bel hb9)
            have HKn := hide (known_in V9)
            clear HCp HT8 hb9
            go_wp2_with fail
            refine (unhide HKn).mono ?_
            rintro e V10 ⟨rfl, hb10⟩
            have HB := hide (bnext (unhide HBe) hb10)
            clear HKn HBe hb10
            go_wp2
            go_ret
            exact ⟨rfl, unhide HB⟩

theorem own : ownKnob Try.prog.godebug = none := by kernel_rfl
theorem laidOut2 : laidOutB Try.prog = true := by kernel_rfl

set_option maxRecDepth 100000 in
theorem lifted (os : Os) (started : os.Started) (H : Type) (enc : TypeId × Value → H) :
    ReturnsInHanded {} Try.checked os 3 .any (Rows.netOwnSpec.pre6 enc Try.prog Try.f3 Rows.netOwnRow.domain false) (Rows.netOwnSpec.post enc Try.prog Try.f3 false true false false) := by
  refine returnsInHanded_of_change (C := Try.checked) own started (by kernel_rfl) Try.func3
    (ChangeSpec.witness6 (enc := enc) (C := Try.checked) false ⟨#[], #[.slice none 0 0], []⟩ 8 (by kernel_rfl) (by kernel_rfl) (by kernel_rfl) (by kernel_rfl)) ?_
  intro W base args ds gs before hval0 hW hcnd _
  have hval : ∀ (j : Nat) t v, Try.f3.params[j]? = some t → args[j]? = some v → Value.okWide Try.prog W .any base t v := hval0
  have hW' := hW
  obtain ⟨p, q, hA0, hV, rfl, hfz, hnd⟩ := hW
  have hA : DataW.TrodAll enc Try.prog W 0 (fun _ => true) true Try.f3.params.toList args.toList ds p := hA0
  rw [Try.params3] at hA hval
  obtain ⟨v0, vs0, d0, ds0, p0, q0, hargs, rfl, rfl, h0, r0⟩ := trodAll_cons hA
  obtain ⟨rfl, rfl, rfl⟩ := trodAll_nil r0
  obtain rfl : args = #[v0] := by cases args; simp_all
  obtain ⟨rfl, rfl⟩ := trodVars_none hV
  obtain ⟨a0, len0, cap0, rfl⟩ := okWide_slice Try.underlying22 (hval 0 22 v0 rfl rfl)
  have k0 := h0
  have lt0 : ∀ x ∈ p0, x.block < W.heap.size := by obtain ⟨m, hm⟩ := k0; exact DataW.trod_lt m _ _ _ hm
  obtain ⟨z0, w0⟩ : ∃ l : List Stp, RSt W (.slice a0 len0 cap0) l ∧ l.length = len0 ∧ len0 ≤ maxLen ∧ ∀ e ∈ l, StW W e := by
    obtain ⟨fuel, hf⟩ := h0
    simp only [Value.cells] at hf
    exact open_steps hf
  clear hA0 hval0
  refine (walk a0 len0 cap0 z0 W w0).mono fun e W' ⟨he, bel⟩ => ?_
  subst he
  exact ⟨_, rfl, _, _, _, [], _, [], hW', trodAll_mk1 (shut_bool Try.underlying4 _), (trodAll_cons_mk (Below.trod laidOut2 (by kernel_rfl) (of_decide_eq_true (by kernel_rfl)) k0 bel lt0) trodAll_mk0), rfl, bel.frame _, fun h => by cases h⟩

theorem over : Rows.netOwnRow.holds Try.pinned (OpenSpec.ofChange Rows.netOwnSpec) :=
  OpenClaim.holds_of_wide 3 Try.f3 rfl rfl rfl rfl rfl rfl rfl ⟨rfl, rfl, rfl, rfl, rfl⟩ rfl rfl rfl rfl rfl (by kernel_rfl) Try.func3 (by kernel_rfl)
    (of_decide_eq_true (by kernel_rfl)) (by unfold Func.isWrapper; first | (rw [if_pos (by decide +kernel)]; kernel_rfl) | (rw [if_neg (by decide +kernel)]; exact ⟨rfl, rfl⟩))
    (fun os started H enc _ => lifted os started H enc)

end LNetOwn

theorem netOwn_holds : Rows.NetOwnSaid := LNetOwn.over

end Go.Proofs.Ytfminifjnjfocab
