/-
  Chapter 23's law FairMore returns true for all events, sites, numbers and steps, and leaves its arguments as they were; no condition.
-/
import Derived.Test.YtmglnaldpcmakaaRows
import Derived.WalkKit
import Derived.ProofKit
import Derived.OpenShut
import Derived.ShutString
import Derived.ChangeOld
import Derived.Below
import Derived.Test.YtmglnaldpcmakaaZEA
import Derived.Deep.CutRange
set_option linter.unusedVariables false
set_option linter.unusedSimpArgs false
namespace Go.Proofs.Ytmglnaldpcmakaa
namespace LFairMore
open Go.ChangeShapes Go.WideShapes Go.ChangeAt Go.RowKit Go.Lib
open Go.ChangeMaps (open_string shut_string)

set_option maxRecDepth 100000 in
set_option maxHeartbeats 8000000 in
theorem walk (a0 : Option Addr) (len0 cap0 : Nat) (es : List Ev) (a1 : Option Addr) (len1 cap1 : Nat) (ms : List Ev) (a2 : Option Addr) (len2 cap2 : Nat) (lv : List Int) (other frm tt later : Int) (w : World) (w0 : RV w (.slice a0 len0 cap0) es ∧ es.length = len0 ∧ len0 ≤ maxLen ∧ ∀ e ∈ es, EvW e) (w1 : RV w (.slice a1 len1 cap1) ms ∧ ms.length = len1 ∧ len1 ≤ maxLen ∧ ∀ e ∈ ms, EvW e) (w2 : RN w (.slice a2 len2 cap2) lv ∧ lv.length = len2 ∧ len2 ≤ maxLen ∧ ∀ e ∈ lv, in64 e) (w3 : (Lit.int .i64 other).wf = true) (w4 : (Lit.int .i64 frm).wf = true) (w5 : (Lit.int .i64 tt).wf = true) (w6 : (Lit.int .i64 later).wf = true) :
    Calls Try.prog 7 #[.slice a0 len0 cap0, .slice a1 len1 cap1, .slice a2 len2 cap2, .int .i64 other, .int .i64 frm, .int .i64 tt, .int .i64 later] w fun e W => e = .returned (.bool true) ∧ Below w.heap.size w W := by
  obtain ⟨hr, rfl, -, -⟩ := w0
  obtain ⟨hr2, rfl, -, -⟩ := w1
  obtain ⟨hv, rfl, -, -⟩ := w2
  obtain ⟨ht1, ht2⟩ := wf64 w5
  obtain ⟨hs1, hs2⟩ := wf64 w6
  clear w3 w4 w5 w6
  have HLg := hide (large_in a0 a2 es.length lv.length cap0 cap2 w)
  have HLh := hide (large_in a1 a2 ms.length lv.length cap1 cap2 w)
  have HK := hide (fun W => awake_in W)
  have mixed : Try.prog.follows .mixedOrders = true := by kernel_rfl
  by_cases hlg : 300 < es.length ∨ 40 < lv.length
  · rw [decide_eq_true hlg] at HLg
    clear hlg hr hr2 hv HLh
    go_enter Try.func7, Try.ntmps7
    go_wp2_with fail
    refine (unhide HLg).mono ?_
    rintro e Wl ⟨he, hWl⟩
    subst he
    rw [hWl]
    clear hWl
    go_wp2_with fail
    refine (unhide HK _).mono ?_
    rintro e W2 ⟨rfl, hb2⟩
    have Hb2 := hide hb2
    clear hb2 HK HLg
    go_wp2
    go_ret
    exact ⟨rfl, unhide Hb2⟩
  · rw [decide_eq_false hlg] at HLg
    by_cases hlh : 300 < ms.length ∨ 40 < lv.length
    · rw [decide_eq_true hlh] at HLh
      clear hlg hlh hr hr2 hv
      go_enter Try.func7, Try.ntmps7
      go_wp2_with fail
      refine (unhide HLg).mono ?_
      rintro e Wl ⟨he, hWl⟩
      subst he
      rw [hWl]
      clear hWl
      go_wp2_with fail
      refine (unhide HLh).mono ?_
      rintro e Wl ⟨he, hWl⟩
      subst he
      rw [hWl]
      clear hWl
      go_wp2_with fail
      refine (unhide HK _).mono ?_
      rintro e W2 ⟨rfl, hb2⟩
      have Hb2 := hide hb2
      clear hb2 HK HLg HLh
      go_wp2
      go_ret
      exact ⟨rfl, unhide Hb2⟩
    · rw [decide_eq_false hlh] at HLh
      have hl3 : es.length ≤ 300 := by omega
      have hl4 : lv.length ≤ 40 := by omega
      have hl5 : ms.length ≤ 300 := by omega
      have HWn := hide (Sk.Windows_in w _ _ es lv frm tt hr hv (by omega) (by omega) ht2)
      have HA := hide hr
      have HB := hide hr2
      have HV := hide hv
      obtain ⟨n, hn⟩ : ∃ n, es.length = n := ⟨_, rfl⟩
      obtain ⟨n2, hn2⟩ : ∃ n, ms.length = n := ⟨_, rfl⟩
      obtain ⟨m, hm⟩ : ∃ m, lv.length = m := ⟨_, rfl⟩
      have Hn := hide hn
      have Hn2 := hide hn2
      have Hm := hide hm
      rw [hn, hm] at HWn HLg
      rw [hn2, hm] at HLh
      rw [hn] at HA hl3 ⊢
      rw [hn2] at HB hl5 ⊢
      rw [hm] at HV hl4 ⊢
      clear hlg hlh hn hn2 hm hr hr2 hv
      go_enter Try.func7, Try.ntmps7
      go_wp2_with fail
      refine (unhide HLg).mono ?_
      rintro e Wl ⟨he, hWl⟩
      subst he
      rw [hWl]
      clear hWl
      go_wp2_with fail
      refine (unhide HLh).mono ?_
      rintro e Wl ⟨he, hWl⟩
      subst he
      rw [hWl]
      clear hWl
      go_wp2_with fail
      refine (unhide HWn).mono ?_
      rintro e W1 ⟨v, L, rfl, ho, hw, hll, hb1⟩
      obtain ⟨av, cv, rfl⟩ := OwW.form ho
      have HL := hide ho.row
      have Hw := hide hw
      have Hb1 := hide hb1
      obtain ⟨k, hk⟩ : ∃ k, L.length = k := ⟨_, rfl⟩
      have Hk := hide hk
      skip
      rw [hk] at hll HL ⊢
      -- all
      have hte := two_evs W1 22 22 _ _ ms es ((unhide HB).below hb1) ((unhide HA).below hb1) (by rw [unhide Hn, unhide Hn2]; omega)
      obtain ⟨v1, X1, v2, X2, r1, r2, o2, bX2⟩ := hte
      have Hr1 := hide r1
      have Hr2 := hide r2
      have Ho2 := hide o2
      have HbX := hide bX2
      clear ho hw hb1 HWn HLg HLh hk r1 r2 o2 bX2
      go_wp2_with (at_builtin; first | (refine wpList_append_eq rfl _ _ 22 22 rfl _ _ _ _ rfl rfl (unhide Hr1) ?_) | (refine wpList_append_eq rfl _ _ 22 22 rfl _ _ _ _ rfl rfl (unhide Hr2) ?_))
      have HWa := hide (Sk.Windows_in X2 _ _ (ms ++ es) lv frm tt (unhide Ho2).row ((unhide HV).below (bnext (unhide Hb1) (unhide HbX))) (by rw [List.length_append, unhide Hn, unhide Hn2]; omega) (by rw [unhide Hm]; omega) ht2)
      go_wp2_with fail
      refine (unhide HWa).mono ?_
      rintro e W3 ⟨v3, L3, rfl, ho3, hw3, -, hb3⟩
      have h3k : k ≤ L3.length := by
        rw [← unhide Hk]
        exact WinP.more (Int.le_refl tt) (fun e he => List.mem_append_right _ he) (fun a ha => ha) (fun h => h) (unhide Hw) hw3
      obtain ⟨c3, a3, rfl⟩ := OwW.form ho3
      have HbW := hide (bnext (unhide HbX) hb3)
      have h3k' : ¬ (L3.length : Int) < (k : Int) := by omega
      have h3d : decide (L3.length < k) = false := decide_eq_false (by omega)
      clear ho3 hw3 hb3 h3k Hr1 Hr2 Ho2 HbX HWa
      generalize L3.length = k3 at *
      go_upto_region 7 with fail
      go_cut [63] from 50 to 63 (fun v wx => v = .bool false ∧ Hid (Below W1.heap.size W1 wx))
      case first =>
        by_cases hlt : later ≥ tt
        · have hL4 := hide (Sk.Windows_in W3 _ _ es lv frm later ((unhide HA).below (bnext (unhide Hb1) (unhide HbW))) ((unhide HV).below (bnext (unhide Hb1) (unhide HbW))) (by rw [unhide Hn]; omega) (by rw [unhide Hm]; omega) hs2)
          rw [unhide Hn] at hL4
          go_wp2_with fail
          refine (unhide hL4).mono ?_
          rintro e W4 ⟨v4, L4, rfl, ho4, hw4, -, hb4⟩
          have h4k : k ≤ L4.length := by
            rw [← unhide Hk]
            exact WinP.more hlt (fun e he => he) (fun a ha => ha) (fun h => h) (unhide Hw) hw4
          obtain ⟨c4, a4, rfl⟩ := OwW.form ho4
          have HbW4 := hide (bnext (unhide HbW) hb4)
          have h4k' : ¬ (L4.length : Int) < (k : Int) := by omega
          have h4d : decide (L4.length < k) = false := decide_eq_false (by omega)
          clear ho4 hw4 hb4 h4k
          generalize L4.length = k4 at *
          go_wp2
          go_meet
          case rel => exact ⟨rfl, HbW4⟩
        · have hlt' : decide (tt ≤ later) = false := decide_eq_false (by omega)
          have hlt'' : decide (later ≥ tt) = false := decide_eq_false (by omega)
          go_wp2
          go_meet
          case rel => exact ⟨rfl, HbW⟩
      case rest =>
        obtain ⟨rfl, HbC⟩ := hcut
        obtain ⟨C, hC⟩ : ∃ C, C = wc := ⟨_, rfl⟩
        subst hC
        clear HbW
        have hn1 : -9223372036854775808 ≤ (n : Int) - 1 := by omega
        go_wp2
        go_loopw [17, 18] (fun bv iv wr => ∃ (j : Nat) (v : Value), j ≤ n ∧ bv = v ∧ iv = .int .i64 ((j : Int) - 1) ∧ Hid (OwV wr C.heap.size v ((es.drop j).reverse) ∧ Below C.heap.size C wr)) (fun _ iv _ => (RowKit.intOf iv + 1).toNat)
        case atStart => exact ⟨n, _, Nat.le_refl _, rfl, rfl, hide ⟨by
          rw [List.drop_of_length_le (by rw [unhide Hn]; exact Nat.le_refl _)]
          exact World.ownsRow_nil _ _ _ _, Below.refl _ _⟩⟩
        case round =>
          obtain ⟨j, v, hj, rfl, rfl, HJ⟩ := hrel
          cases j with
          | succ j =>
            have ej : (((j + 1 : Nat) : Nat) : Int) - 1 = (j : Int) := by omega
            rw [ej]
            obtain ⟨e, he⟩ : ∃ e, es[j]? = some e := ⟨_, List.getElem?_eq_getElem (by rw [unhide Hn]; omega)⟩
            have hjn : (j : Int) < (n : Int) := by omega
            have hrow := (unhide HA).below (bnext (unhide Hb1) (bnext (unhide HbC) (unhide HJ).2))
            obtain ⟨be, oe, rfl, _, q0, q1, q2, q3, q4, q5, q6⟩ := RV.at hrow he
            have hlen : ((es.drop (j + 1)).reverse).length ≤ 100000 := by rw [List.length_reverse, List.length_drop, unhide Hn]; omega
            obtain ⟨v', W5, hrun, hown, -, hbel⟩ := append_ev wr 22 C.heap.size _ _ e (unhide HJ).1 (unhide HJ).2.size hlen
            rw [drop_rev he] at hown
            have hres : Hid (OwV W5 C.heap.size v' ((es.drop j).reverse) ∧ Below C.heap.size C W5) := ⟨hown, hbel C rfl (unhide HJ).2⟩
            obtain ⟨ab, cb, rfl⟩ := OwV.form (unhide HJ).1
            have Hrun := hide hrun
            unfold evC at Hrun
            clear hrow he hlen hrun hown hbel HJ
            go_wp2_with (at_builtin; refine wpList_append_eq rfl _ _ 22 22 rfl _ _ _ _ rfl rfl (unhide Hrun) ?_)
            go_roundw
            case rel => exact ⟨j, _, by omega, rfl, rfl, hres⟩
            case measure => show ((j : Int) - 1 + 1).toNat < ((j : Int) + 1).toNat; omega
          | zero =>
            have e0 : (((0 : Nat) : Nat) : Int) - 1 = -1 := by omega
            rw [e0]
            have hown := (unhide HJ).1
            rw [List.drop_zero] at hown
            have HbB := hide (bnext (unhide HbC) (unhide HJ).2)
            have Hown := hide hown
            obtain ⟨ab, cb, rfl⟩ := OwV.form hown
            rw [List.length_reverse, unhide Hn] at Hown ⊢
            clear hown HJ
            have hL5 := hide (Sk.Windows_in wr _ _ (es.reverse) lv frm tt (unhide Hown).row ((unhide HV).below (bnext (unhide Hb1) (unhide HbB))) (by rw [List.length_reverse, unhide Hn]; omega) (by rw [unhide Hm]; omega) ht2)
            go_wp2_with fail
            refine (unhide hL5).mono ?_
            rintro e W5 ⟨v5, L5, rfl, ho5, hw5, -, hb5⟩
            have e5 : L5 = L := hw5.same (fun e => by rw [List.mem_reverse]) (fun a => Iff.rfl) (unhide Hw)
            subst e5
            obtain ⟨a5, c5, rfl⟩ := OwW.form ho5
            have hb15 := bnext (unhide HbB) hb5
            have hs5 := same_in W5 _ _ L5 L5 ho5.row ((unhide HL).below hb15) (by rw [unhide Hk]; omega) (by rw [unhide Hk]; omega)
            rw [decide_eq_true rfl, unhide Hk] at hs5
            rw [unhide Hk]
            have Hs5 := hide hs5
            have Hb15 := hide hb15
            clear hs5 hb15 ho5 hw5 hb5 hL5
            go_wp2_with fail
            refine (unhide Hs5).mono ?_
            rintro e W6 ⟨rfl, hb6⟩
            have Hb16 := hide (bnext (unhide Hb15) hb6)
            have hti := two_ints W6 23 23 _ _ lv lv ((unhide HV).below (bnext (unhide Hb1) (unhide Hb16))) ((unhide HV).below (bnext (unhide Hb1) (unhide Hb16))) (by rw [unhide Hm]; omega)
            obtain ⟨v7, X7, v8, X8, r7, r8, o8, bX8⟩ := hti
            have Hr7 := hide r7
            have Hr8 := hide r8
            have Hb18 := hide (bnext (unhide Hb16) bX8)
            have hL9 := hide (Sk.Windows_in X8 _ _ es (lv ++ lv) frm tt ((unhide HA).below (bnext (unhide Hb1) (unhide Hb18))) o8.row (by rw [unhide Hn]; omega) (by rw [List.length_append, unhide Hm]; omega) ht2)
            rw [unhide Hn] at hL9
            clear hb6 r7 r8 o8 bX8 Hs5
            go_wp2_with (first | (at_builtin; first | (refine wpList_append_want rfl _ _ 23 23 rfl _ _ _ _ rfl rfl (unhide Hr7) ?_) | (refine wpList_append_want rfl _ _ 23 23 rfl _ _ _ _ rfl rfl (unhide Hr8) ?_)) | fail)
            refine (unhide hL9).mono ?_
            rintro e W9 ⟨v9, L9, rfl, ho9, hw9, -, hb9⟩
            have e9 : L9 = L5 := hw9.same (fun e => Iff.rfl) (fun a => by simp) (unhide Hw)
            subst e9
            obtain ⟨a9, c9, rfl⟩ := OwW.form ho9
            have hb19 := bnext (unhide Hb18) hb9
            have hs9 := same_in W9 _ _ L9 L9 ho9.row ((unhide HL).below hb19) (by rw [unhide Hk]; omega) (by rw [unhide Hk]; omega)
            rw [decide_eq_true rfl, unhide Hk] at hs9
            rw [unhide Hk]
            have Hs9 := hide hs9
            have Hb19 := hide hb19
            clear hs9 hb19 ho9 hw9 hb9 hL9 Hr7 Hr8 Hb15 Hb16 Hb18
            go_wp2_with fail
            refine (unhide Hs9).mono ?_
            rintro e WA ⟨rfl, hbA⟩
            have HbA := hide (bnext (unhide Hb19) hbA)
            clear hbA Hs9
            go_wp2
            go_loopw [19, 20, 21] (fun fv tv iv wr => ∃ (i : Nat) (v : Value) (f : Bool), i ≤ m ∧ fv = v ∧ tv = .bool f ∧ iv = .int .i64 (i : Nat) ∧ Hid (OwN wr WA.heap.size v (fewL lv other i) ∧ (f = true ↔ Sev (fewL lv other i)) ∧ Below WA.heap.size WA wr)) (fun _ _ iv _ => m - (RowKit.intOf iv).toNat)
            case atStart => exact ⟨0, _, _, Nat.zero_le _, rfl, rfl, rfl, hide ⟨World.ownsRow_nil _ _ _ _, ⟨fun h => by (cases h), fun h => absurd h sev_nil⟩, Below.refl _ _⟩⟩
            case round =>
              obtain ⟨i, v, f, hi, rfl, rfl, rfl, HG⟩ := hrel
              by_cases hlt : i < m
              · have hlt' : (i : Int) < (m : Int) := by omega
                obtain ⟨y, hy⟩ : ∃ y, lv[i]? = some y := ⟨_, List.getElem?_eq_getElem (by rw [unhide Hm]; exact hlt)⟩
                have hrv := (unhide HV).below (bnext (unhide Hb1) (bnext (unhide HbA) (unhide HG).2.2))
                obtain ⟨b, off, rfl, _, k0⟩ := RN.at hrv hy
                have hfs := fewL_succ (x := other) hy
                by_cases hyo : y = other
                · rw [if_neg (by simp [hyo]), List.append_nil] at hfs
                  have hres : Hid (OwN wr WA.heap.size u19 (fewL lv other (i + 1)) ∧ (f = true ↔ Sev (fewL lv other (i + 1))) ∧ Below WA.heap.size WA wr) := by
                    have h := unhide HG
                    rw [← hfs] at h
                    exact h
                  clear hy hrv hfs HG
                  go_wp2
                  go_roundw
                  case rel => exact ⟨i + 1, _, f, by omega, rfl, rfl, by go_num, hres⟩
                  case measure => show m - ((i : Int) + 1).toNat < m - ((i : Nat) : Int).toNat; omega
                · have hyo' : (y != other) = true := by rw [bne_iff_ne]; exact hyo
                  rw [if_pos hyo] at hfs
                  obtain ⟨v', W10, hrun, hown, hgr, -⟩ := append_int wr 23 WA.heap.size _ _ y (unhide HG).1 (unhide HG).2.2.size (by have := fewL_len lv other i; rw [unhide Hm] at this; omega)
                  have hbel : Below WA.heap.size WA W10 := (Kp.of_grown (N := fun k => u19.ownBlock = some k) hgr (fun k e => e)).below (ballc (unhide HG).2.2 _) (fun i e => owns_ge (unhide HG).1 i e)
                  rw [← hfs] at hown
                  obtain ⟨af, cf, hfe⟩ := (unhide HG).1.form
                  subst hfe
                  have hl1 : (fewL lv other (i + 1)).length = (fewL lv other i).length + 1 := by rw [hfs]; simp
                  obtain ⟨ag, cg, rfl⟩ := hown.form
                  have hq0 : 0 < (fewL lv other (i + 1)).length := by omega
                  obtain ⟨x, hx⟩ : ∃ x, (fewL lv other (i + 1))[0]? = some x := ⟨_, List.getElem?_eq_getElem hq0⟩
                  obtain ⟨bf, of', rfl, _, p0⟩ := RN.at hown.row hx
                  rw [Nat.add_zero] at p0
                  have hsn : Sev (fewL lv other (i + 1)) ↔ Sev (fewL lv other i) ∨ y ≠ x := by
                    rw [hfs] at hx ⊢
                    exact sev_snoc hx
                  have k0' : W10.cell? ⟨b, off + i, none⟩ = some (.int .i64 y) := by
                    have h2 := (unhide HV).below (bnext (unhide Hb1) (bnext (unhide HbA) hbel))
                    obtain ⟨b2, off2, e2, _, q2⟩ := RN.at h2 hy
                    simp only [Option.some.injEq, Addr.mk.injEq, and_true] at e2
                    obtain ⟨rfl, rfl⟩ := e2
                    exact q2
                  have Hrun := hide hrun
                  have Hown := hide hown
                  have Hbel := hide hbel
                  have hff := (unhide HG).2.1
                  rw [hl1] at Hrun Hown
                  have hfl0 : (0 : Int) < (((fewL lv other i).length : Nat) : Int) + 1 := by omega
                  cases f with
                  | true =>
                    have Hsn := hide (show true = true ↔ Sev (fewL lv other (i + 1)) from ⟨fun _ => hsn.2 (.inl (hff.1 rfl)), fun _ => rfl⟩)
                    clear hy hrv hfs hrun hown hgr hbel hx hsn hff HG hl1 hq0
                    go_wp2_with (at_builtin; refine wpList_append_eq rfl _ _ 23 23 rfl _ _ _ _ rfl rfl (unhide Hrun) ?_)
                    go_quiet (fail)
                    have hq := bdrew (n := nq) (Below.refl _ W10)
                    have hres : Hid (OwN (W10.drewN nq) WA.heap.size (.slice (some ⟨bf, of', none⟩) ((fewL lv other i).length + 1) cg) (fewL lv other (i + 1)) ∧ (true = true ↔ Sev (fewL lv other (i + 1))) ∧ Below WA.heap.size WA (W10.drewN nq)) := by
                      refine ⟨owns_below (unhide Hown) hq, (by simpa using unhide Hsn), bdrew (unhide Hbel) _⟩
                    clear hq Hsn
                    go_wp2
                    go_roundw
                    case rel => exact ⟨i + 1, _, true, by omega, rfl, rfl, by go_num, hres⟩
                    case measure => show m - ((i : Int) + 1).toNat < m - ((i : Nat) : Int).toNat; omega
                  | false =>
                    by_cases hyx : y = x
                    · subst hyx
                      have Hsn := hide (show false = true ↔ Sev (fewL lv other (i + 1)) from ⟨fun h => by (cases h), fun h => by
                        rcases hsn.1 h with c | c
                        · exact hff.2 c
                        · exact absurd rfl c⟩)
                      clear hy hrv hfs hrun hown hgr hbel hx hsn hff HG hl1 hq0
                      go_wp2_with (at_builtin; refine wpList_append_eq rfl _ _ 23 23 rfl _ _ _ _ rfl rfl (unhide Hrun) ?_)
                      go_quiet (fail)
                      have hq := bdrew (n := nq) (Below.refl _ W10)
                      have hres : Hid (OwN (W10.drewN nq) WA.heap.size (.slice (some ⟨bf, of', none⟩) ((fewL lv other i).length + 1) cg) (fewL lv other (i + 1)) ∧ (false = true ↔ Sev (fewL lv other (i + 1))) ∧ Below WA.heap.size WA (W10.drewN nq)) := by
                        refine ⟨owns_below (unhide Hown) hq, (by simpa using unhide Hsn), bdrew (unhide Hbel) _⟩
                      clear hq Hsn
                      go_wp2
                      go_roundw
                      case rel => exact ⟨i + 1, _, false, by omega, rfl, rfl, by go_num, hres⟩
                      case measure => show m - ((i : Int) + 1).toNat < m - ((i : Nat) : Int).toNat; omega
                    · have hyx' : (y != x) = true := by rw [bne_iff_ne]; exact hyx
                      have Hsn := hide (show true = true ↔ Sev (fewL lv other (i + 1)) from ⟨fun _ => hsn.2 (.inr hyx), fun _ => rfl⟩)
                      clear hy hrv hfs hrun hown hgr hbel hx hsn hff HG hl1 hq0
                      go_wp2_with (at_builtin; refine wpList_append_eq rfl _ _ 23 23 rfl _ _ _ _ rfl rfl (unhide Hrun) ?_)
                      go_quiet (fail)
                      have hq := bdrew (n := nq) (Below.refl _ W10)
                      have hres : Hid (OwN (W10.drewN nq) WA.heap.size (.slice (some ⟨bf, of', none⟩) ((fewL lv other i).length + 1) cg) (fewL lv other (i + 1)) ∧ (true = true ↔ Sev (fewL lv other (i + 1))) ∧ Below WA.heap.size WA (W10.drewN nq)) := by
                        refine ⟨owns_below (unhide Hown) hq, (by simpa using unhide Hsn), bdrew (unhide Hbel) _⟩
                      clear hq Hsn
                      go_wp2
                      go_roundw
                      case rel => exact ⟨i + 1, _, true, by omega, rfl, rfl, by go_num, hres⟩
                      case measure => show m - ((i : Int) + 1).toNat < m - ((i : Nat) : Int).toNat; omega
              · have hlt' : ¬ (i : Int) < (m : Int) := by omega
                obtain rfl : i = m := by omega
                have hown := (unhide HG).1
                have hff := (unhide HG).2.1
                have HbE := hide (bnext (unhide HbA) (unhide HG).2.2)
                obtain ⟨af, cf, rfl⟩ := hown.form
                have Hown := hide hown
                clear hown HG
                cases f with
                | false =>
                  clear hff
                  go_wp2_with fail
                  refine (unhide HK _).mono ?_
                  rintro e WZ ⟨rfl, hbZ⟩
                  have HbZ := hide (bnext (unhide Hb1) (bnext (unhide HbE) hbZ))
                  clear hbZ
                  go_wp2
                  go_ret
                  exact ⟨by simp, unhide HbZ⟩
                | true =>
                  have hsv := hff.1 rfl
                  have hLE := hide (Sk.Windows_in wr _ _ es (fewL lv other i) frm tt ((unhide HA).below (bnext (unhide Hb1) (unhide HbE))) (unhide Hown).row (by rw [unhide Hn]; omega) (by have := fewL_len lv other i; rw [unhide Hm] at this; omega) ht2)
                  rw [unhide Hn] at hLE
                  clear hff
                  go_wp2_with fail
                  refine (unhide hLE).mono ?_
                  rintro e WF ⟨vF, LF, rfl, hoF, hwF, -, hbF⟩
                  have hFk : k ≤ LF.length := by
                    rw [← unhide Hk]
                    exact WinP.more (Int.le_refl tt) (fun e he => he) fewL_sub (fun _ => hsv) (unhide Hw) hwF
                  obtain ⟨aF, cF, rfl⟩ := OwW.form hoF
                  have HbF := hide (bnext (unhide HbE) hbF)
                  have hFk' : (LF.length : Int) ≥ (k : Int) := by omega
                  have hFd : decide (k ≤ LF.length) = true := decide_eq_true hFk
                  clear hoF hwF hbF hLE hsv
                  generalize LF.length = kF at *
                  go_wp2_with fail
                  refine (unhide HK _).mono ?_
                  rintro e WZ ⟨rfl, hbZ⟩
                  have HbZ := hide (bnext (unhide Hb1) (bnext (unhide HbF) hbZ))
                  clear hbZ
                  go_wp2
                  go_ret
                  exact ⟨by simp, unhide HbZ⟩

theorem own : ownKnob Try.prog.godebug = none := by kernel_rfl
theorem laidOut2 : laidOutB Try.prog = true := by kernel_rfl

set_option maxRecDepth 100000 in
theorem lifted (os : Os) (started : os.Started) (H : Type) (enc : TypeId × Value → H) :
    ReturnsInHanded {} Try.checked os 7 .any (Rows.fairMoreSpec.pre6 enc Try.prog Try.f7 Rows.fairMoreRow.domain false) (Rows.fairMoreSpec.post enc Try.prog Try.f7 false true false false) := by
  refine returnsInHanded_of_change (C := Try.checked) own started (by kernel_rfl) Try.func7
    (ChangeSpec.witness6 (enc := enc) (C := Try.checked) false ⟨#[], #[.slice none 0 0, .slice none 0 0, .slice none 0 0, .int .i64 0, .int .i64 0, .int .i64 0, .int .i64 0], []⟩ 8 (by kernel_rfl) (by kernel_rfl) (by kernel_rfl) (by kernel_rfl)) ?_
  intro W base args ds gs before hval0 hW hcnd _
  have hval : ∀ (j : Nat) t v, Try.f7.params[j]? = some t → args[j]? = some v → Value.okWide Try.prog W .any base t v := hval0
  have hW' := hW
  obtain ⟨p, q, hA0, hV, rfl, hfz, hnd⟩ := hW
  have hA : DataW.TrodAll enc Try.prog W 0 (fun _ => true) true Try.f7.params.toList args.toList ds p := hA0
  rw [Try.params7] at hA hval
  obtain ⟨v0, vs0, d0, ds0, p0, q0, hargs, rfl, rfl, h0, r0⟩ := trodAll_cons hA
  obtain ⟨v1, vs1, d1, ds1, p1, q1, rfl, rfl, rfl, h1, r1⟩ := trodAll_cons r0
  obtain ⟨v2, vs2, d2, ds2, p2, q2, rfl, rfl, rfl, h2, r2⟩ := trodAll_cons r1
  obtain ⟨v3, vs3, d3, ds3, p3, q3, rfl, rfl, rfl, h3, r3⟩ := trodAll_cons r2
  obtain ⟨v4, vs4, d4, ds4, p4, q4, rfl, rfl, rfl, h4, r4⟩ := trodAll_cons r3
  obtain ⟨v5, vs5, d5, ds5, p5, q5, rfl, rfl, rfl, h5, r5⟩ := trodAll_cons r4
  obtain ⟨v6, vs6, d6, ds6, p6, q6, rfl, rfl, rfl, h6, r6⟩ := trodAll_cons r5
  obtain ⟨rfl, rfl, rfl⟩ := trodAll_nil r6
  obtain rfl : args = #[v0, v1, v2, v3, v4, v5, v6] := by cases args; simp_all
  obtain ⟨rfl, rfl⟩ := trodVars_none hV
  obtain ⟨a0, len0, cap0, rfl⟩ := okWide_slice Try.underlying22 (hval 0 22 v0 rfl rfl)
  have k0 := h0
  have lt0 : ∀ x ∈ p0, x.block < W.heap.size := by obtain ⟨m, hm⟩ := k0; exact DataW.trod_lt m _ _ _ hm
  obtain ⟨z0, w0⟩ : ∃ l : List Ev, RV W (.slice a0 len0 cap0) l ∧ l.length = len0 ∧ len0 ≤ maxLen ∧ ∀ e ∈ l, EvW e := by
    obtain ⟨fuel, hf⟩ := h0
    simp only [Value.cells] at hf
    exact open_events hf
  obtain ⟨a1, len1, cap1, rfl⟩ := okWide_slice Try.underlying22 (hval 1 22 v1 rfl rfl)
  have k1 := h1
  have lt1 : ∀ x ∈ p1, x.block < W.heap.size := by obtain ⟨m, hm⟩ := k1; exact DataW.trod_lt m _ _ _ hm
  obtain ⟨z1, w1⟩ : ∃ l : List Ev, RV W (.slice a1 len1 cap1) l ∧ l.length = len1 ∧ len1 ≤ maxLen ∧ ∀ e ∈ l, EvW e := by
    obtain ⟨fuel, hf⟩ := h1
    simp only [Value.cells] at hf
    exact open_events hf
  obtain ⟨a2, len2, cap2, rfl⟩ := okWide_slice Try.underlying23 (hval 2 23 v2 rfl rfl)
  have k2 := h2
  have lt2 : ∀ x ∈ p2, x.block < W.heap.size := by obtain ⟨m, hm⟩ := k2; exact DataW.trod_lt m _ _ _ hm
  obtain ⟨z2, w2⟩ : ∃ l : List Int, RN W (.slice a2 len2 cap2) l ∧ l.length = len2 ∧ len2 ≤ maxLen ∧ ∀ e ∈ l, in64 e := by
    obtain ⟨fuel, hf⟩ := h2
    simp only [Value.cells] at hf
    exact open_nums hf
  obtain ⟨a3, rfl, rfl, rfl, w3⟩ := open_int Try.underlying3 (hval 3 3 v3 rfl rfl) h3
  obtain ⟨a4, rfl, rfl, rfl, w4⟩ := open_int Try.underlying3 (hval 4 3 v4 rfl rfl) h4
  obtain ⟨a5, rfl, rfl, rfl, w5⟩ := open_int Try.underlying3 (hval 5 3 v5 rfl rfl) h5
  obtain ⟨a6, rfl, rfl, rfl, w6⟩ := open_int Try.underlying3 (hval 6 3 v6 rfl rfl) h6
  clear hA0 hval0
  refine (walk a0 len0 cap0 z0 a1 len1 cap1 z1 a2 len2 cap2 z2 a3 a4 a5 a6 W w0 w1 w2 w3 w4 w5 w6).mono fun e W' ⟨he, bel⟩ => ?_
  subst he
  exact ⟨_, rfl, _, _, _, [], _, [], hW', trodAll_mk1 (shut_bool Try.underlying4 _), (trodAll_cons_mk (Below.trod laidOut2 (by kernel_rfl) (of_decide_eq_true (by kernel_rfl)) k0 bel lt0) (trodAll_cons_mk (Below.trod laidOut2 (by kernel_rfl) (of_decide_eq_true (by kernel_rfl)) k1 bel lt1) (trodAll_cons_mk (Below.trod laidOut2 (by kernel_rfl) (of_decide_eq_true (by kernel_rfl)) k2 bel lt2) (trodAll_cons_mk (shut_int Try.underlying3 w3) (trodAll_cons_mk (shut_int Try.underlying3 w4) (trodAll_cons_mk (shut_int Try.underlying3 w5) (trodAll_cons_mk (shut_int Try.underlying3 w6) trodAll_mk0))))))), rfl, bel.frame _, fun h => by cases h⟩

theorem over : Rows.fairMoreRow.holds Try.pinned (OpenSpec.ofChange Rows.fairMoreSpec) :=
  OpenClaim.holds_of_wide 7 Try.f7 rfl rfl rfl rfl rfl rfl rfl ⟨rfl, rfl, rfl, rfl, rfl⟩ rfl rfl rfl rfl rfl (by kernel_rfl) Try.func7 (by kernel_rfl)
    (of_decide_eq_true (by kernel_rfl)) (by unfold Func.isWrapper; first | (rw [if_pos (by decide +kernel)]; kernel_rfl) | (rw [if_neg (by decide +kernel)]; exact ⟨rfl, rfl⟩))
    (fun os started H enc _ => lifted os started H enc)

end LFairMore

theorem fairMore_holds : Rows.FairMoreSaid := LFairMore.over

end Go.Proofs.Ytmglnaldpcmakaa
