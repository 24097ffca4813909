/-
  Chapter 23's law FairWindows returns true for all events, sites and steps, and leaves its arguments as they were; no condition.
-/
import Derived.Test.YtmglnaldpcmakaaRows
import Derived.WalkKit
import Derived.ProofKit
import Derived.OpenShut
import Derived.ShutString
import Derived.ChangeOld
import Derived.Below
import Derived.Test.YtmglnaldpcmakaaZEB
import Derived.Deep.RegionHeld3
set_option linter.unusedVariables false
set_option linter.unusedSimpArgs false
namespace Go.Proofs.Ytmglnaldpcmakaa
namespace LFairWindows
open Go.ChangeShapes Go.WideShapes Go.ChangeAt Go.RowKit Go.Lib
open Go.ChangeMaps (open_string shut_string)

set_option maxRecDepth 100000 in
set_option maxHeartbeats 8000000 in
theorem walk (a0 : Option Addr) (len0 cap0 : Nat) (es : List Ev) (a1 : Option Addr) (len1 cap1 : Nat) (lv : List Int) (frm to : Int) (w : World) (w0 : RV w (.slice a0 len0 cap0) es ∧ es.length = len0 ∧ len0 ≤ maxLen ∧ ∀ e ∈ es, EvW e) (w1 : RN w (.slice a1 len1 cap1) lv ∧ lv.length = len1 ∧ len1 ≤ maxLen ∧ ∀ e ∈ lv, in64 e) (w2 : (Lit.int .i64 frm).wf = true) (w3 : (Lit.int .i64 to).wf = true) :
    Calls Try.prog 3 #[.slice a0 len0 cap0, .slice a1 len1 cap1, .int .i64 frm, .int .i64 to] w fun e W => e = .returned (.bool true) ∧ Below w.heap.size w W := by
  obtain ⟨hr, rfl, hmx, -⟩ := w0
  obtain ⟨hv, rfl, hmv, -⟩ := w1
  obtain ⟨hf1, hf2⟩ := wf64 w2
  obtain ⟨ht1, ht2⟩ := wf64 w3
  clear w2 w3
  have HLg := hide (large_in a0 a1 es.length lv.length cap0 cap1 w)
  have HK := hide (fun W => awake_in W)
  have mixed : Try.prog.follows .mixedOrders = true := by kernel_rfl
  by_cases hlg : 300 < es.length ∨ 40 < lv.length
  · rw [decide_eq_true hlg] at HLg
    clear hlg hr hv hmx hmv
    go_enter Try.func3, Try.ntmps3
    go_wp2_with fail
    refine (unhide HLg).mono ?_
    rintro e W1 ⟨rfl, rfl⟩
    go_wp2_with fail
    refine (unhide HK _).mono ?_
    rintro e W2 ⟨rfl, hb2⟩
    have Hb2 := hide hb2
    clear hb2 HK HLg
    go_wp2
    go_ret
    exact ⟨rfl, unhide Hb2⟩
  · rw [decide_eq_false hlg] at HLg
    have hl3 : es.length ≤ 300 := by omega
    have hl4 : lv.length ≤ 40 := by omega
    have HA := hide hr
    have HV := hide hv
    obtain ⟨n, hn⟩ : ∃ n, es.length = n := ⟨_, rfl⟩
    obtain ⟨m, hm⟩ : ∃ m, lv.length = m := ⟨_, rfl⟩
    have Hn := hide hn
    have Hm := hide hm
    obtain ⟨v1, X1, gg, cg, X2, r1, r2, hga, hge, hcg, bX2⟩ := mk_evsC w 22 22 _ es hr (by omega)
    obtain ⟨v3, Y1, gs, cs, Y2, r3, r4, hsa, hgs, hcs, bY2⟩ := mk_intsC X2 23 23 _ lv (hv.below bX2) (by omega)
    replace hga := hga.below bY2
    replace hge := hge.below bY2
    rw [hn] at r1 r2 hga hge hcg HA hl3 ⊢
    rw [hm] at r3 r4 hsa hgs hcs HV hl4 ⊢
    rw [hn, hm] at HLg
    have HGA := hide hga
    have HSA := hide hsa
    have Hr1 := hide r1
    have Hr2 := hide r2
    have Hr3 := hide r3
    have Hr4 := hide r4
    have HbY := hide (bnext bX2 bY2)
    have sE := fun W => sl_toE W (some ⟨gg, 0, none⟩) (n + 1) cg n (by omega)
    have sN := fun W => sl_toN W (some ⟨gs, 0, none⟩) (m + 1) cs m (by omega)
    have HWn := hide (fun (W : World) (hb : Hid (Below Y2.heap.size Y2 W)) => Sk.Windows_in W _ _ es lv frm to (hge.below (unhide hb)) (hgs.below (unhide hb)) (by rw [hn]; omega) (by rw [hm]; omega) ht2)
    clear hlg hmx hmv hn hm hr hv r1 r2 r3 r4 bX2 bY2 hge hgs hga hsa
    go_enter Try.func3, Try.ntmps3
    go_wp2_with fail
    refine (unhide HLg).mono ?_
    rintro e Wl ⟨he, hWl⟩
    subst he
    rw [hWl]
    clear hWl HLg
    go_wp2_with (at_builtin; first | (refine wpList_append_eq rfl _ _ 22 22 rfl _ _ _ _ rfl rfl (unhide Hr1) ?_) | (refine wpList_append_eq rfl _ _ 22 22 rfl _ _ _ _ rfl rfl (unhide Hr2) ?_) | (refine wpList_append_eq rfl _ _ 23 23 rfl _ _ _ _ rfl rfl (unhide Hr3) ?_) | (refine wpList_append_eq rfl _ _ 23 23 rfl _ _ _ _ rfl rfl (unhide Hr4) ?_))
    have Hbd : Hid (Below Y2.heap.size Y2 Y2.drew) := hide (Below.refl _ _).drew
    go_region_held3 (fun w' => Hid (Below Y2.heap.size Y2 w'))
      (first
        | (exact Hbd)
        | (exact hide (bnext (unhide (by assumption)) hbw))
        | go_keep)
      (first
        | (go_at_call 10; refine (unhide HWn _ (by assumption)).mono ?_; rintro e' w' ⟨v, L, rfl, ho, hw, hll, hbw⟩))
    obtain ⟨av, cv, rfl⟩ := OwW.form ho
    obtain ⟨W3, hW3⟩ : ∃ W3, W3 = w' := ⟨_, rfl⟩
    have HoA := hide ho
    have HwA := hide hw
    have hY3 := bnext (unhide (by assumption : Hid (Below Y2.heap.size Y2 _))) hbw
    have Hb3 := hide (bnext (unhide HbY) hY3)
    have hga : ∀ i, (Value.slice av L.length cv).ownBlock = some i → w.heap.size ≤ i ∧ i < W3.heap.size := fun i hi => ⟨Nat.le_trans (Nat.le_trans (unhide HbY).size (unhide (by assumption : Hid (Below Y2.heap.size Y2 _))).size) (owns_ge ho i hi), by rw [hW3]; exact owns_lt ho i hi⟩
    have HGA3 := hide ((unhide HGA).below hY3)
    have HSA3 := hide ((unhide HSA).below hY3)
    have HA3 := hide ((unhide HA).below (unhide Hb3))
    have HV3 := hide ((unhide HV).below (unhide Hb3))
    have hrf := refWindows_in w' _ _ es lv frm to (unhide HA3) (unhide HV3) (by rw [unhide Hn]; omega) (by rw [unhide Hm]; omega) ht2
    rw [unhide Hn] at hrf
    have Hrf := hide hrf
    have hkl : L.length ≤ n := by rw [unhide Hn] at hll; exact hll
    obtain ⟨k, hk⟩ : ∃ k, L.length = k := ⟨_, rfl⟩
    have Hk := hide hk
    rw [hk] at hkl HoA hga ⊢
    have Hga := hide hga
    clear hga ho hw hll hY3 hrf hk hbw Hr1 Hr2 Hr3 Hr4 HGA HSA HWn sE sN
    subst hW3
    go_wp2_with fail
    refine (unhide Hrf).mono ?_
    rintro e W4 ⟨v4, L4, rfl, ho4, hw4, -, hb4⟩
    obtain rfl : L4 = L := hw4.uniq (unhide HwA)
    have hs4 := same_in W4 _ v4 L4 L4 ((unhide HoA).row.below hb4) ho4.row (by rw [unhide Hk]; omega) (by rw [unhide Hk]; omega)
    rw [decide_eq_true rfl] at hs4
    obtain ⟨a4, c4, rfl⟩ := OwW.form ho4
    rw [unhide Hk] at hs4 ⊢
    have Hs4 := hide hs4
    have Hb34 := hide hb4
    clear hs4 ho4 hw4 hb4 Hrf
    go_wp2_with fail
    refine (unhide Hs4).mono ?_
    rintro e W5 ⟨rfl, hb5⟩
    have Hb35 := hide (bnext (unhide Hb34) hb5)
    have hgn : (es ++ [mkE])[n]? = some mkE := by rw [List.getElem?_append_right (by rw [unhide Hn]; exact Nat.le_refl _), unhide Hn, Nat.sub_self]; rfl
    have hsm : (lv ++ [(171 : Int)])[m]? = some 171 := by rw [List.getElem?_append_right (by rw [unhide Hm]; exact Nat.le_refl _), unhide Hm, Nat.sub_self]; rfl
    obtain ⟨b1, o1, e1, _, g0, g1, g2, g3, g4, g5, g6⟩ := RV.at ((unhide HGA3).below (unhide Hb35)) hgn
    simp only [Option.some.injEq, Addr.mk.injEq, and_true] at e1
    obtain ⟨rfl, rfl⟩ := e1
    obtain ⟨b2, o2, e2, _, s0⟩ := RN.at ((unhide HSA3).below (unhide Hb35)) hsm
    simp only [Option.some.injEq, Addr.mk.injEq, and_true] at e2
    obtain ⟨rfl, rfl⟩ := e2
    simp only [mkE, Nat.zero_add] at g0 g1 g2 g3 g4 g5 g6 s0
    have hn1 : (n : Int) < (n : Int) + 1 := by omega
    have hm1 : (m : Int) < (m : Int) + 1 := by omega
    clear hgn hsm hb5 Hs4 Hb34
    go_wp2
    have HI := hide (unhide Hb35)
    clear g0 g1 g2 g3 g4 g5 g6 s0
    go_loopw [12] (fun iv wr => ∃ i : Nat, i ≤ n ∧ iv = .int .i64 (i : Nat) ∧ Hid (Below W3.heap.size W3 wr)) (fun iv _ => n - (RowKit.intOf iv).toNat)
    case atStart => exact ⟨0, Nat.zero_le _, rfl, HI⟩
    case round =>
      obtain ⟨i, hi, rfl, HB⟩ := hrel
      clear HI
      by_cases hlt : i < n
      · have hlt' : (i : Int) < (n : Int) := by omega
        have hlt2 : (i : Int) < (n : Int) + 1 := by omega
        obtain ⟨e, he⟩ : ∃ e, es[i]? = some e := ⟨_, List.getElem?_eq_getElem (by rw [unhide Hn]; exact hlt)⟩
        have he2 : (es ++ [mkE])[i]? = some e := by rw [List.getElem?_append_left (by rw [unhide Hn]; exact hlt)]; exact he
        obtain ⟨b1, o1, e1, _, g0, g1, g2, g3, g4, g5, g6⟩ := RV.at ((unhide HGA3).below (unhide HB)) he2
        simp only [Option.some.injEq, Addr.mk.injEq, and_true] at e1
        obtain ⟨rfl, rfl⟩ := e1
        obtain ⟨b2, o2, rfl, _, k0, k1, k2, k3, k4, k5, k6⟩ := RV.at ((unhide HA3).below (unhide HB)) he
        rw [Nat.zero_add] at g0 g1 g2 g3 g4 g5 g6
        clear he he2
        go_wp2
        go_quiet (fail)
        have hb2 := hide (bdrew (unhide HB) nq)
        go_wp2
        go_roundw
        case rel => exact ⟨i + 1, by omega, by go_num, hb2⟩
        case measure => show n - ((i : Int) + 1).toNat < n - ((i : Nat) : Int).toNat; omega
      · have hlt' : ¬ (i : Int) < (n : Int) := by omega
        go_wp2
        go_loopw [13] (fun iv wr => ∃ i : Nat, i ≤ m ∧ iv = .int .i64 (i : Nat) ∧ Hid (Below W3.heap.size W3 wr)) (fun iv _ => m - (RowKit.intOf iv).toNat)
        case atStart => exact ⟨0, Nat.zero_le _, rfl, HB⟩
        case round =>
          obtain ⟨j, hj, rfl, HC⟩ := hrel
          clear HB
          by_cases hjt : j < m
          · have hjt' : (j : Int) < (m : Int) := by omega
            have hjt2 : (j : Int) < (m : Int) + 1 := by omega
            obtain ⟨y, hy⟩ : ∃ y, lv[j]? = some y := ⟨_, List.getElem?_eq_getElem (by rw [unhide Hm]; exact hjt)⟩
            have hy2 : (lv ++ [(171 : Int)])[j]? = some y := by rw [List.getElem?_append_left (by rw [unhide Hm]; exact hjt)]; exact hy
            obtain ⟨b1, o1, e1, _, g0⟩ := RN.at ((unhide HSA3).below (unhide HC)) hy2
            simp only [Option.some.injEq, Addr.mk.injEq, and_true] at e1
            obtain ⟨rfl, rfl⟩ := e1
            obtain ⟨b2, o2, rfl, _, k0⟩ := RN.at ((unhide HV3).below (unhide HC)) hy
            rw [Nat.zero_add] at g0
            clear hy hy2
            go_wp2
            go_quiet (fail)
            have hb2 := hide (bdrew (unhide HC) nq)
            go_wp2
            go_roundw
            case rel => exact ⟨j + 1, by omega, by go_num, hb2⟩
            case measure => show m - ((j : Int) + 1).toNat < m - ((j : Nat) : Int).toNat; omega
          · have hjt' : ¬ (j : Int) < (m : Int) := by omega
            have hLb := hide (Sk.Windows_in wr _ _ es lv frm to ((unhide HA3).below (unhide HC)) ((unhide HV3).below (unhide HC)) (by rw [unhide Hn]; omega) (by rw [unhide Hm]; omega) ht2)
            rw [unhide Hn] at hLb
            go_wp2_with fail
            refine (unhide hLb).mono ?_
            rintro e W6 ⟨v6, L6, rfl, ho6, hw6, -, hb6⟩
            obtain rfl : L6 = L4 := hw6.uniq (unhide HwA)
            obtain ⟨a6, c6, rfl⟩ := OwW.form ho6
            have hge6 := fun i hi => owns_ge ho6 i hi
            have hszr := (unhide HC).size
            have hsz6 := hb6.size
            have hw36 : Below W3.heap.size W3 W6 := bnext (unhide HC) hb6
            have HoX : Hid (OwX W6 32 2 (.slice av k cv) k) := by
              have h := owns_below (unhide HoA) hw36
              rw [unhide Hk] at h
              exact hide (OwX.of h)
            have Ho6 := hide ho6
            have Hb36 := hide hw36
            rw [unhide Hk] at hge6 ⊢
            have Hge6 := hide hge6
            clear ho6 hw6 hb6 hLb hw36 hge6
            go_wp2
            go_loopw [15] (fun iv wx => ∃ i : Nat, i ≤ k ∧ iv = .int .i64 (i : Nat) ∧ Hid (Kp (fun q => (Value.slice av k cv).ownBlock = some q) W6 wx ∧ OwX wx 32 2 (.slice av k cv) k)) (fun iv _ => k - (RowKit.intOf iv).toNat)
            case atStart => exact ⟨0, Nat.zero_le _, rfl, hide ⟨Kp.refl _ _, unhide HoX⟩⟩
            case round =>
              obtain ⟨p, hp, rfl, HD⟩ := hrel
              by_cases hpk : p < k
              · have hpk' : (p : Int) < (k : Int) := by omega
                obtain ⟨g, rfl, hgl, hfz, hcl, _⟩ := (unhide HD).2.at (by omega)
                obtain ⟨q0, h0⟩ := hcl (p * 2) (by omega)
                obtain ⟨q1, h1⟩ := hcl (p * 2 + 1) (by omega)
                have z0 := hfz (p * 2)
                have z1 := hfz (p * 2 + 1)
                obtain ⟨wy, hwy⟩ : ∃ wy, wy = wr := ⟨_, rfl⟩
                have hres : Hid (Kp (fun q => (Value.slice (some ⟨g, 0, none⟩) k cv).ownBlock = some q) W6 ((wr.setCell ⟨g, p * 2, none⟩ (.int .i64 (-9))).setCell ⟨g, p * 2 + 1, none⟩ (.int .i64 0)) ∧ OwX ((wr.setCell ⟨g, p * 2, none⟩ (.int .i64 (-9))).setCell ⟨g, p * 2 + 1, none⟩ (.int .i64 0)) 32 2 (.slice (some ⟨g, 0, none⟩) k cv) k) := by
                  refine ⟨((unhide HD).1.trans (Kp.set (N := fun q => q = g) wr _ _ rfl) (fun i e => .inl (by rw [e]; rfl))).trans (Kp.set (N := fun q => q = g) _ _ _ rfl) (fun i e => .inl (by rw [e]; rfl)), (unhide HD).2.ss ((SS.set _ _ _ _).trans (SS.set _ _ _ _))⟩
                clear hfz hcl HD hwy
                go_wp2
                go_roundw
                case rel => exact ⟨p + 1, by omega, by go_num, hres⟩
                case measure => show k - ((p : Int) + 1).toNat < k - ((p : Nat) : Int).toNat; omega
              · have hpk' : ¬ (p : Int) < (k : Int) := by omega
                obtain ⟨v7, W7, hrun, ⟨a7, c7, rfl⟩, hgr⟩ := append_wx wr 28 _ k (-8, 0) (unhide HD).2 (by omega)
                have hk7 : Kp (fun q => (Value.slice av k cv).ownBlock = some q) W6 W7 := ((unhide HD).1.trans (Kp.of_below (N := fun _ => False) (ballc (Below.refl _ _) _)) (fun i e => e.elim)).trans (Kp.of_grown (N := fun q => (Value.slice av k cv).ownBlock = some q) hgr (fun k e => e)) (fun i e => .inl e)
                have Hb7 : Hid (Below w.heap.size w W7) := hide (hk7.below (bnext (unhide Hb3) (unhide Hb36)) (fun i e => (unhide Hga i e).1))
                have ho7 := owns_kp (unhide Ho6) hk7 (fun i hi e => by
                  rw [unhide Hk] at hi
                  have h1 := unhide Hge6 i hi
                  have h2 := (unhide Hga i e).2
                  omega)
                have hrf7 := refWindows_in W7 _ _ es lv frm to ((unhide HA).below (unhide Hb7)) ((unhide HV).below (unhide Hb7)) (by rw [unhide Hn]; omega) (by rw [unhide Hm]; omega) ht2
                rw [unhide Hn] at hrf7
                have Hrf7 := hide hrf7
                have Hrun := hide hrun
                have Ho7 := hide ho7
                clear hrun hgr hk7 ho7 hrf7 HD
                go_wp2_with (first | (at_builtin; refine wpList_append_eq rfl _ _ 28 28 rfl _ _ _ _ rfl rfl (unhide Hrun) ?_) | fail)
                refine (unhide Hrf7).mono ?_
                rintro e W8 ⟨v8, L8, rfl, ho8, hw8, -, hb8⟩
                obtain rfl : L8 = L6 := hw8.uniq (unhide HwA)
                have hs8 := same_in W8 _ v8 L8 L8 (RG.below (OwW.row (unhide Ho7)) hb8) ho8.row (by rw [unhide Hk]; omega) (by rw [unhide Hk]; omega)
                rw [decide_eq_true rfl] at hs8
                obtain ⟨a8, c8, rfl⟩ := OwW.form ho8
                rw [unhide Hk] at hs8 ⊢
                have Hs8 := hide hs8
                have Hb8 := hide (bnext (unhide Hb7) hb8)
                clear hs8 ho8 hw8 hb8 Hrf7
                go_wp2_with fail
                refine (unhide Hs8).mono ?_
                rintro e W9 ⟨rfl, hb9⟩
                have Hb9 := hide (bnext (unhide Hb8) hb9)
                clear hb9 Hs8
                go_wp2_with fail
                refine (unhide HK _).mono ?_
                rintro e WZ ⟨rfl, hbZ⟩
                have HbZ := hide (bnext (unhide Hb9) hbZ)
                clear hbZ
                go_wp2
                go_ret
                exact ⟨by simp, unhide HbZ⟩

theorem own : ownKnob Try.prog.godebug = none := by kernel_rfl
theorem laidOut2 : laidOutB Try.prog = true := by kernel_rfl

set_option maxRecDepth 100000 in
theorem lifted (os : Os) (started : os.Started) (H : Type) (enc : TypeId × Value → H) :
    ReturnsInHanded {} Try.checked os 3 .any (Rows.fairWindowsSpec.pre6 enc Try.prog Try.f3 Rows.fairWindowsRow.domain false) (Rows.fairWindowsSpec.post enc Try.prog Try.f3 false true false false) := by
  refine returnsInHanded_of_change (C := Try.checked) own started (by kernel_rfl) Try.func3
    (ChangeSpec.witness6 (enc := enc) (C := Try.checked) false ⟨#[], #[.slice none 0 0, .slice none 0 0, .int .i64 0, .int .i64 0], []⟩ 8 (by kernel_rfl) (by kernel_rfl) (by kernel_rfl) (by kernel_rfl)) ?_
  intro W base args ds gs before hval0 hW hcnd _
  have hval : ∀ (j : Nat) t v, Try.f3.params[j]? = some t → args[j]? = some v → Value.okWide Try.prog W .any base t v := hval0
  have hW' := hW
  obtain ⟨p, q, hA0, hV, rfl, hfz, hnd⟩ := hW
  have hA : DataW.TrodAll enc Try.prog W 0 (fun _ => true) true Try.f3.params.toList args.toList ds p := hA0
  rw [Try.params3] at hA hval
  obtain ⟨v0, vs0, d0, ds0, p0, q0, hargs, rfl, rfl, h0, r0⟩ := trodAll_cons hA
  obtain ⟨v1, vs1, d1, ds1, p1, q1, rfl, rfl, rfl, h1, r1⟩ := trodAll_cons r0
  obtain ⟨v2, vs2, d2, ds2, p2, q2, rfl, rfl, rfl, h2, r2⟩ := trodAll_cons r1
  obtain ⟨v3, vs3, d3, ds3, p3, q3, rfl, rfl, rfl, h3, r3⟩ := trodAll_cons r2
  obtain ⟨rfl, rfl, rfl⟩ := trodAll_nil r3
  obtain rfl : args = #[v0, v1, v2, v3] := by cases args; simp_all
  obtain ⟨rfl, rfl⟩ := trodVars_none hV
  obtain ⟨a0, len0, cap0, rfl⟩ := okWide_slice Try.underlying22 (hval 0 22 v0 rfl rfl)
  have k0 := h0
  have lt0 : ∀ x ∈ p0, x.block < W.heap.size := by obtain ⟨m, hm⟩ := k0; exact DataW.trod_lt m _ _ _ hm
  obtain ⟨z0, w0⟩ : ∃ l : List Ev, RV W (.slice a0 len0 cap0) l ∧ l.length = len0 ∧ len0 ≤ maxLen ∧ ∀ e ∈ l, EvW e := by
    obtain ⟨fuel, hf⟩ := h0
    simp only [Value.cells] at hf
    exact open_events hf
  obtain ⟨a1, len1, cap1, rfl⟩ := okWide_slice Try.underlying23 (hval 1 23 v1 rfl rfl)
  have k1 := h1
  have lt1 : ∀ x ∈ p1, x.block < W.heap.size := by obtain ⟨m, hm⟩ := k1; exact DataW.trod_lt m _ _ _ hm
  obtain ⟨z1, w1⟩ : ∃ l : List Int, RN W (.slice a1 len1 cap1) l ∧ l.length = len1 ∧ len1 ≤ maxLen ∧ ∀ e ∈ l, in64 e := by
    obtain ⟨fuel, hf⟩ := h1
    simp only [Value.cells] at hf
    exact open_nums hf
  obtain ⟨a2, rfl, rfl, rfl, w2⟩ := open_int Try.underlying3 (hval 2 3 v2 rfl rfl) h2
  obtain ⟨a3, rfl, rfl, rfl, w3⟩ := open_int Try.underlying3 (hval 3 3 v3 rfl rfl) h3
  clear hA0 hval0
  refine (walk a0 len0 cap0 z0 a1 len1 cap1 z1 a2 a3 W w0 w1 w2 w3).mono fun e W' ⟨he, bel⟩ => ?_
  subst he
  exact ⟨_, rfl, _, _, _, [], _, [], hW', trodAll_mk1 (shut_bool Try.underlying4 _), (trodAll_cons_mk (Below.trod laidOut2 (by kernel_rfl) (of_decide_eq_true (by kernel_rfl)) k0 bel lt0) (trodAll_cons_mk (Below.trod laidOut2 (by kernel_rfl) (of_decide_eq_true (by kernel_rfl)) k1 bel lt1) (trodAll_cons_mk (shut_int Try.underlying3 w2) (trodAll_cons_mk (shut_int Try.underlying3 w3) trodAll_mk0)))), rfl, bel.frame _, fun h => by cases h⟩

theorem over : Rows.fairWindowsRow.holds Try.pinned (OpenSpec.ofChange Rows.fairWindowsSpec) :=
  OpenClaim.holds_of_wide 3 Try.f3 rfl rfl rfl rfl rfl rfl rfl ⟨rfl, rfl, rfl, rfl, rfl⟩ rfl rfl rfl rfl rfl (by kernel_rfl) Try.func3 (by kernel_rfl)
    (of_decide_eq_true (by kernel_rfl)) (by unfold Func.isWrapper; first | (rw [if_pos (by decide +kernel)]; kernel_rfl) | (rw [if_neg (by decide +kernel)]; exact ⟨rfl, rfl⟩))
    (fun os started H enc _ => lifted os started H enc)

end LFairWindows

theorem fairWindows_holds : Rows.FairWindowsSaid := LFairWindows.over

end Go.Proofs.Ytmglnaldpcmakaa
