/-
  Chapter 5's law DiffOwn returns true for every two texts, and leaves its arguments as they were; no condition.
-/
import Derived.Test.YtlbgfcbhpmhhpabRows
import Derived.WalkKit
import Derived.ProofKit
import Derived.OpenShut
import Derived.ShutString
import Derived.ChangeOld
import Derived.Below
import Derived.Test.YtlbgfcbhpmhhpabZO2
import Derived.Test.YtlbgfcbhpmhhpabZDR
set_option linter.unusedVariables false
set_option linter.unusedSimpArgs false
namespace Go.Proofs.Ytlbgfcbhpmhhpab
namespace LDiffOwn
open Go.ChangeShapes Go.WideShapes Go.ChangeAt Go.RowKit Go.Lib
open Go.ChangeMaps (open_string shut_string)

open O

theorem infoRow : (Try.prog.info? 23).map (fun i => (i.zero, i.size, i.bytes)) = some (some (.slice none 0 0), 1, 24) := by kernel_rfl

theorem mkRes_len (s t : ByteArray) (hs : s.size ≤ 1200) (ht : t.size ≤ 1200) : (mkRes s t).length ≤ 100000 := by
  unfold mkRes
  split
  · have h := mkL_count (runeL s) (runeL t)
    have a1 := runeL_length s
    have a2 := runeL_length t
    have a3 := allL_length s
    have a4 := allL_length t
    omega
  · simp
theorem mkRes_ok (s t : ByteArray) (hs : s.size ≤ 1200) (ht : t.size ≤ 1200) : ∀ e ∈ mkRes s t, EdOk e := by
  unfold mkRes
  split
  · have a1 := runeL_length s
    have a2 := runeL_length t
    have a3 := allL_length s
    have a4 := allL_length t
    exact mkL_ok _ _ (by omega) (by omega)
  · simp

theorem own_addr {W : World} {B e s n c : Nat} {ag : Option Addr} {xs : List Value} (h : W.ownsRow B e s (.slice ag n c) n xs) : (ag = none ∧ n = 0 ∧ c = 0) ∨ ∃ g, ag = some ⟨g, 0, none⟩ := by
  rcases h.2 with ⟨e0, _⟩ | ⟨g, cap, cur, e1, _⟩
  · simp only [Value.slice.injEq] at e0
    exact .inl e0
  · simp only [Value.slice.injEq] at e1
    exact .inr ⟨g, e1.1⟩
theorem new_one (W : World) (c0 : Value) (t : TypeId) : ∀ j u, ([c0] : List Value)[j]? = some u → (W.alloc (.cells #[c0] t)).cell? ((⟨W.heap.size, 0, none⟩ : Addr).add j) = some u := by
  intro j u h
  match j, h with
  | 0, h => simp at h; subst h; simp [go_sem, Addr.add]
  | j + 1, h => simp at h

set_option maxRecDepth 100000 in
set_option maxHeartbeats 8000000 in
theorem inner (a b : ByteArray) (ha : a.size ≤ 1200) (hb : b.size ≤ 1200) (W : World) :
    Calls Try.prog 3 #[.string a, .string b] W fun e W' => e = .returned (.bool true) ∧ Below W.heap.size W W' := by
  have d1 : decide ((1200 : Int) < ((a.size : Nat) : Int)) = false := by rw [decide_eq_false_iff_not]; omega
  have d2 : decide ((1200 : Int) < ((b.size : Nat) : Int)) = false := by rw [decide_eq_false_iff_not]; omega
  have hkn := fun W => hide (known_in W)
  have hmk := fun W => hide (make_in a b (by omega) (by omega) W)
  have hRl := mkRes_len a b ha hb
  have hok := mkRes_ok a b ha hb
  have hiv := fun v W h => hide (invert_in a (mkRes a b) v W h (by omega) (by omega) hok)
  have hVl : (if chk a (mkRes a b) = 0 then ivL a (mkRes a b) else []).length ≤ 100000 := by
    split
    · rw [ivL_length]; omega
    · simp
  generalize (if chk a (mkRes a b) = 0 then ivL a (mkRes a b) else []) = V at *
  generalize chk a (mkRes a b) = C at *
  generalize mkErr a b = E at *
  generalize mkRes a b = R at *
  have hEE : (E == E) = true := by simp
  obtain ⟨i0, hinf, hz0, hz1, hz2⟩ := info_parts infoRow
  obtain ⟨e0, einf, ez0, ez1, ez2⟩ := info_parts infoEdit
  clear hok
  go_enter Try.func3, Try.ntmps3
  go_wp2_with fail
  refine (unhide (hmk _)).mono ?_
  rintro e W1 ⟨wv, rfl, how, hBw⟩
  have Rw := hide (RE.of_owns how)
  clear how
  go_wp2_with fail
  go_loopw [7, 8] (fun lv iv wr => ∃ (i : Nat) (v : Nat → Value) (n : Nat → Nat) (xs : Nat → List Value), iv = .int .i64 (i : Nat) ∧ i ≤ 3 ∧ Hid (Fm W1 (2 * i) v n xs wr) ∧ Hid (wr.ownsRow W1.heap.size 23 1 lv (2 * i) ((List.range (2 * i)).map v)) ∧ Hid (∀ j, n j ≤ 100000)) (fun _ iv _ => 3 - (RowKit.intOf iv).toNat)
  case atStart => exact ⟨0, fun _ => .slice none 0 0, fun _ => 0, fun _ => [], rfl, by omega, hide Fm.start, hide (World.ownsRow_nil _ _ _ _), hide (fun _ => Nat.zero_le _)⟩
  case round =>
    obtain ⟨i, v, n, xs, rfl, hi3, hF, hO, hn⟩ := hrel
    by_cases hi : i < 3
    · have i1 : (i : Int) < 3 := by omega
      go_wp2_with fail
      refine (unhide (hmk _)).mono ?_
      rintro e W2 ⟨u2, rfl, ho2, hB2⟩
      have hF2 := hide ((unhide hF).add hB2 ho2)
      have hO2 := hide (O.own_below (unhide hO) hB2)
      have R2 := hide (RE.of_owns ho2)
      have RW2 := hide ((unhide Rw).below (unhide hF2).bel)
      obtain ⟨a2, c2, rfl⟩ := own_form ho2
      clear ho2 hB2 hF hO
      go_wp2_with fail
      refine (unhide (hiv _ _ (unhide RW2))).mono ?_
      rintro e W3 ⟨u3, rfl, ho3, hB3⟩
      have hF3 := hide ((unhide hF2).add hB3 ho3)
      have hO3 := hide (O.own_below (unhide hO2) hB3)
      have R3 := hide ((unhide R2).below hB3)
      have RW3 := hide ((unhide RW2).below hB3)
      obtain ⟨a3, c3, rfl⟩ := own_form ho3
      clear ho3 hB3 hF2 hO2 R2 RW2
      go_wp2_with fail
      refine (eqE_in R R _ _ _ (unhide R3) (unhide RW3) (by omega) (by omega)).mono ?_
      rintro e W4 ⟨rfl, k4, rfl⟩
      rw [show decide (R = R) = true by simp]
      have hdr : Below W3.heap.size W3 (W3.drewN k4) := bdrew (Below.refl _ _) k4
      have hF4 := hide ((unhide hF3).below hdr)
      have hO4 := hide (O.own_below (unhide hO3) hdr)
      clear hF3 hO3 R3 RW3 hdr
      generalize W3.drewN k4 = W4 at *
      have hs4 := (unhide hF4).bel.size
      go_wp2_with (at_builtin; refine wpList_append_own _ rfl _ _ 27 rfl W1.heap.size 23 i0 _ 1 24 Try.underlying27 hinf hz0 hz1 hz2 rfl (by decide) u7 (2 * i) ((List.range (2 * i)).map v) rfl (World.ownsRow.alloc (unhide hO4) _) ⟨W4.heap.size, 0, none⟩ 2 2 [.slice a2 R.length c2, .slice a3 V.length c3] rfl rfl (new_two _ _ _ _) (by simp [Value.oneCell']) (by unfold maxLen; omega) (by omega) (by simp; omega) ?_; intro v5 W5 ho5 hg5 _; have hF5 := hide (((unhide hF4).alloc _).other (World.ownsRow.alloc (unhide hO4) _) (Nat.le_refl _) (by decide) hg5); have hO5 := hide ho5; clear ho5 hg5 hO4 hF4)
      have hO6 : Hid (W5.ownsRow W1.heap.size 23 1 v5 (2 * (i + 1)) ((List.range (2 * (i + 1))).map (upd (upd v (2 * i) (.slice a2 R.length c2)) (2 * i + 1) (.slice a3 V.length c3)))) := by
        rw [range_two]; exact hO5
      have hn6 : Hid (∀ j, upd (upd n (2 * i) R.length) (2 * i + 1) V.length j ≤ 100000) := hide (fun j => by
        unfold upd
        have := unhide hn j
        split
        · exact hVl
        · split
          · exact hRl
          · exact this)
      clear hO5 hn
      go_wp2
      go_roundw
      case rel => exact ⟨i + 1, _, _, _, by simp, by omega, hF5, hO6, hn6⟩
      case measure => simp [RowKit.intOf]; omega
    · have i3 : i = 3 := by omega
      have e6 : 2 * i = 6 := by omega
      have d3 : decide ((i : Int) < 3) = false := by rw [decide_eq_false_iff_not]; omega
      have hF6 : Hid (Fm W1 6 v n xs wr) := by rw [e6] at hF; exact hF
      have hO6 : Hid (wr.ownsRow W1.heap.size 23 1 u7 6 ((List.range 6).map v)) := by rw [e6] at hO; exact hO
      obtain ⟨lb, lc, rfl⟩ := own_some (unhide hO6) (by omega)
      clear hi hi3 hF hO hiv i3 e6
      go_wp2_with fail
      clear d3
      go_loopw [13] (fun iv wr => ∃ (i : Nat) (xs : Nat → List Value), iv = .int .i64 (i : Nat) ∧ i ≤ 6 ∧ Hid (Fm W1 6 v n xs wr) ∧ Hid (wr.ownsRow W1.heap.size 23 1 (.slice (some ⟨lb, 0, none⟩) 6 lc) 6 ((List.range 6).map v)) ∧ Hid (Sd n xs i 0)) (fun iv _ => 6 - (RowKit.intOf iv).toNat)
      case atStart => exact ⟨0, xs, rfl, by omega, hF6, hO6, hide ⟨fun j hj => by omega, fun q hq => by omega⟩⟩
      case round =>
        clear hF6 hO6
        obtain ⟨i, xs2, rfl, hi6, hF, hO, hS⟩ := hrel
        by_cases hi : i < 6
        · have i1 : (i : Int) < 6 := by omega
          go_wp2_with fail
          go_loopw [14] (fun kv wr => ∃ (k : Nat) (xs : Nat → List Value), kv = .int .i64 (k : Nat) ∧ k ≤ n i ∧ Hid (Fm W1 6 v n xs wr) ∧ Hid (wr.ownsRow W1.heap.size 23 1 (.slice (some ⟨lb, 0, none⟩) 6 lc) 6 ((List.range 6).map v)) ∧ Hid (Sd n xs i k)) (fun kv _ => n i - (RowKit.intOf kv).toNat)
          case atStart => exact ⟨0, xs2, rfl, by omega, hF, hO, hS⟩
          case round =>
            clear hF hO hS
            obtain ⟨k, xs3, rfl, hk, hF, hO, hS⟩ := hrel
            have hni := unhide hn i
            obtain ⟨ai, ci, hvi⟩ := own_form ((unhide hF).own i hi)
            have ce := outer_cell (unhide hO) hi
            rw [hvi] at ce
            by_cases hk2 : k < n i
            · have k1 : (k : Int) < ((n i : Nat) : Int) := by omega
              obtain ⟨g, c, hvg⟩ := own_some ((unhide hF).own i hi) (by omega)
              have hvv := hvi.symm.trans hvg
              simp only [Value.slice.injEq, true_and] at hvv
              obtain ⟨rfl, rfl⟩ := hvv
              have hrow := (unhide hF).own i hi
              rw [hvg] at hrow
              have hlx := hrow.1
              obtain ⟨y0, hy0⟩ : ∃ y, (xs3 i)[k * 3]? = some y := ⟨_, List.getElem?_eq_getElem (by omega)⟩
              obtain ⟨y1, hy1⟩ : ∃ y, (xs3 i)[k * 3 + 1]? = some y := ⟨_, List.getElem?_eq_getElem (by omega)⟩
              obtain ⟨y2, hy2⟩ : ∃ y, (xs3 i)[k * 3 + 2]? = some y := ⟨_, List.getElem?_eq_getElem (by omega)⟩
              have c0 := (hrow.cellAt (k * 3) (by omega)).trans hy0
              have c1 := (hrow.cellAt (k * 3 + 1) (by omega)).trans hy1
              have c2 := (hrow.cellAt (k * 3 + 2) (by omega)).trans hy2
              have f0 := hrow.frozenAt (k * 3)
              have f1 := hrow.frozenAt (k * 3 + 1)
              have f2 := hrow.frozenAt (k * 3 + 2)
              obtain ⟨hFn, hGn⟩ := (unhide hF).store3 hi hvg (k * 3) (.int .i64 (100 + (i : Int))) (.int .i64 0) (.string ⟨#[]⟩)
              have hOn := hide ((unhide hO).kept hGn (rows_two (unhide hO) hrow (by decide)))
              have hSn := hide ((unhide hS).store (b := .int .i64 0) (d := .string ⟨#[]⟩) (by omega))
              have HF := hide hFn
              clear hFn hGn hF hO hS hrow hlx hy0 hy1 hy2 hvi hvg
              go_wp2
              go_roundw
              case rel => exact ⟨k + 1, _, by simp, by omega, HF, hOn, hSn⟩
              case measure => simp [RowKit.intOf]; omega
            · have hke : k = n i := by omega
              subst hke
              clear hk hk2 hvi
              go_wp2
              go_roundw
              case rel => exact ⟨i + 1, _, by simp, by omega, hF, hO, hide (unhide hS).next⟩
              case measure => simp [RowKit.intOf]; omega
        · have i6 : i = 6 := by omega
          have d6 : decide ((i : Int) < 6) = false := by rw [decide_eq_false_iff_not]; omega
          have hG := hide (G4.start (unhide hF) (unhide hO) (show Sd n xs2 6 0 from i6 ▸ unhide hS))
          obtain ⟨B5, hB5⟩ : ∃ B, wr.heap.size = B := ⟨_, rfl⟩
          rw [hB5] at hG
          clear hi hi6 hF hO hS hB5 i6
          go_wp2_with fail
          clear d6
          go_loopw [15, 16] (fun mv iv wr => ∃ (i : Nat) (v' : Nat → Value) (n' : Nat → Nat) (xs : Nat → List Value), iv = .int .i64 (i : Nat) ∧ i ≤ 6 ∧ Hid (G4 W1 B5 v n (.slice (some ⟨lb, 0, none⟩) 6 lc) i v' n' xs mv wr)) (fun _ iv _ => 6 - (RowKit.intOf iv).toNat)
          case atStart => exact ⟨0, v, n, xs2, rfl, by omega, hG⟩
          case round =>
            clear hG
            obtain ⟨i, v4, n4, xs4, rfl, hi6, hG⟩ := hrel
            by_cases hi : i < 6
            · have i1 : (i : Int) < 6 := by omega
              have ce := outer_cell (unhide hG).out hi
              have hG5 := hide ((unhide hG).begin hi)
              clear hG
              go_wp2_with fail
              go_loopw [17, 18] (fun gv kv wr => ∃ (k : Nat) (v' : Nat → Value) (n' : Nat → Nat) (xs : Nat → List Value), gv = v' (6 + i) ∧ kv = .int .i64 (k : Nat) ∧ k ≤ 20 ∧ Hid (G5 W1 B5 v n (.slice (some ⟨lb, 0, none⟩) 6 lc) i k v' n' xs u15 wr)) (fun _ kv _ => 20 - (RowKit.intOf kv).toNat)
              case atStart => exact ⟨0, _, _, _, (upd_same _ _ _).symm, rfl, by omega, hG5⟩
              case round =>
                clear hG5 ce
                obtain ⟨k, v5, n5, xs5, hgv, rfl, hk20, hG⟩ := hrel
                have hrow := (unhide hG).fm.own (6 + i) (by omega)
                have hni := unhide hn i
                have hnl : n5 (6 + i) ≤ 100020 := by have := (unhide hG).cur.1; omega
                clear hni
                obtain ⟨ag, cg, hform⟩ := own_form hrow
                rw [hform] at hgv hrow
                subst hgv
                by_cases hk : k < 20
                · have k1 : (k : Int) < 20 := by omega
                  have Hrow := hide hrow
                  have hlo := hrow.1
                  have Hform := hide hform
                  clear hrow hform
                  by_cases hc : n5 (6 + i) + 1 ≤ cg
                  · obtain ⟨g, rfl⟩ : ∃ g, ag = some ⟨g, 0, none⟩ := by
                      rcases own_addr (unhide Hrow) with ⟨_, _, h0⟩ | h
                      · omega
                      · exact h
                    go_wp2_with (at_builtin; refine wpList_append_fits _ rfl _ _ 23 rfl W1.heap.size 31 e0 3 Try.underlying23 einf ez1 g (n5 (6 + i)) cg (xs5 (6 + i)) rfl (World.ownsRow.alloc (unhide Hrow) _) ⟨wr.heap.size, 0, none⟩ 1 1 [.int .i64 (200 + (i : Int)), .int .i64 0, .string ⟨#[]⟩] rfl rfl (new_three _ _ _ _ _) (by simp [Value.oneCell']) hc ?_; intro W5 ho5 hg5; have hG6 := hide (((unhide hG).alloc _).fits hi (unhide Hform) ho5 hg5); clear ho5 hg5 hG)
                    go_wp2
                    go_roundw
                    case rel => exact ⟨k + 1, _, _, _, (upd_same _ _ _).symm, by simp, by omega, hG6⟩
                    case measure => simp [RowKit.intOf]; omega
                  · have hnone : ag = none → n5 (6 + i) = 0 ∧ cg = 0 := fun e1 => by
                      rcases own_addr (unhide Hrow) with ⟨_, h0, h1⟩ | ⟨g, h⟩
                      · exact ⟨h0, h1⟩
                      · rw [e1] at h; cases h
                    have holds : ∀ (o : Obj) (b' : Addr), ag = some b' → ∀ j u, (xs5 (6 + i))[j]? = some u → (wr.alloc o).cell? (b'.add j) = some u := fun o b' e1 j u hj => by
                      rcases own_addr (unhide Hrow) with ⟨h0, _⟩ | ⟨g, h⟩
                      · rw [e1] at h0; cases h0
                      · obtain rfl : b' = ⟨g, 0, none⟩ := by rw [e1] at h; simpa using h
                        exact (World.ownsRow.alloc (unhide Hrow) o).cells (by rw [e1]; rfl) j u hj
                    go_wp2_with (at_builtin; refine wpList_append_grows _ rfl _ _ 23 rfl 31 e0 _ 3 32 Try.underlying23 einf ez0 ez1 ez2 rfl (by decide) ag (n5 (6 + i)) cg (xs5 (6 + i)) rfl hnone hlo (holds _) ⟨wr.heap.size, 0, none⟩ 1 1 [.int .i64 (200 + (i : Int)), .int .i64 0, .string ⟨#[]⟩] rfl rfl (new_three _ _ _ _ _) (by simp [Value.oneCell']) (by omega) (by unfold maxLen; omega) (by omega) ?_; intro v6 W5 ho5 hg5; have hG6 := hide (((unhide hG).alloc _).grows hi ho5 hg5); clear ho5 hg5 hG)
                    go_wp2
                    go_roundw
                    case rel => exact ⟨k + 1, _, _, _, (upd_same _ _ _).symm, by simp, by omega, hG6⟩
                    case measure => simp [RowKit.intOf]; omega
                · have hke : k = 20 := by omega
                  have dk : decide ((k : Int) < 20) = false := by rw [decide_eq_false_iff_not]; omega
                  rw [hke] at hG
                  have hs6 := (unhide hG).hi
                  have hf6 := hide hform
                  clear hrow hform hk hk20 hke
                  go_wp2_with (at_builtin; refine wpList_append_own _ rfl _ _ 27 rfl B5 23 i0 _ 1 24 Try.underlying27 hinf hz0 hz1 hz2 rfl (by decide) u15 i ((List.range i).map (fun j => v5 (6 + j))) rfl (World.ownsRow.alloc (unhide hG).more _) ⟨wr.heap.size, 0, none⟩ 1 1 [.slice ag (n5 (6 + i)) cg] rfl rfl (new_one _ _ _) (by simp [Value.oneCell']) (by unfold maxLen; omega) (by omega) (by simp; omega) ?_; intro v6 W5 ho5 hg5 _; have hG6 := hide (((unhide hG).alloc _).done (by rw [unhide hf6]; exact ho5) hg5); clear ho5 hg5 hG hs6)
                  go_wp2
                  go_roundw
                  case rel => exact ⟨i + 1, _, _, _, by simp, by omega, hG6⟩
                  case measure => simp [RowKit.intOf]; omega
            · have i6 : i = 6 := by omega
              have d6 : decide ((i : Int) < 6) = false := by rw [decide_eq_false_iff_not]; omega
              have hG6 : Hid (G4 W1 B5 v n (.slice (some ⟨lb, 0, none⟩) 6 lc) 6 v4 n4 xs4 u15 wr) := i6 ▸ hG
              obtain ⟨mb, mc, rfl⟩ := own_some (unhide hG6).more (by omega)
              clear hG hi hi6 i6
              go_wp2_with fail
              clear d6
              go_loopw [19] (fun iv w3 => ∃ (i : Nat), iv = .int .i64 (i : Nat) ∧ i ≤ 6 ∧ w3 = wr) (fun iv _ => 6 - (RowKit.intOf iv).toNat)
              case atStart => exact ⟨0, rfl, by omega, rfl⟩
              case round =>
                obtain ⟨i, rfl, hi6, rfl⟩ := hrel
                by_cases hi : i < 6
                · have i1 : (i : Int) < 6 := by omega
                  have ce := outer_cell (unhide hG6).out hi
                  have cm := outer_cell (unhide hG6).more hi
                  have hrl := (unhide hG6).fm.own i (by omega)
                  have hrm := (unhide hG6).fm.own (6 + i) (by omega)
                  have hse := (unhide hG6).se i hi
                  have hsd := (unhide hG6).sd i hi
                  rw [((unhide hG6).same i hi).1, ((unhide hG6).same i hi).2] at hrl
                  rw [hse.1] at hrm
                  obtain ⟨ai, ci, hvi⟩ := own_form hrl
                  obtain ⟨g, c, hvm⟩ := own_some hrm (by omega)
                  rw [hvi] at ce hrl
                  rw [hvm] at cm hrm
                  have hni := unhide hn i
                  have HL := hide hrl
                  have HM := hide hrm
                  have HS := hide hsd
                  have HE := hide hse.2
                  obtain ⟨N, hN⟩ : ∃ N, n i = N := ⟨_, rfl⟩
                  rw [hN] at ce cm HL HM HS HE hni
                  clear hrl hrm hse hsd hvi hvm hN
                  go_wp2_with fail
                  go_loopw [21] (fun kv w3 => ∃ (k : Nat), kv = .int .i64 (k : Nat) ∧ k ≤ N + 20 ∧ w3 = wr) (fun kv _ => N + 20 - (RowKit.intOf kv).toNat)
                  case atStart => exact ⟨0, rfl, by omega, rfl⟩
                  case round =>
                    obtain ⟨k, rfl, hkn, rfl⟩ := hrel
                    by_cases hk : k < N + 20
                    · have k1 : (k : Int) < (((N + 20 : Nat)) : Int) := by omega
                      have k1' : (k : Int) < (N : Int) + 20 := by omega
                      by_cases hk2 : k < N
                      · have k2 : (k : Int) < (N : Int) := by omega
                        have k3 : decide ((N : Int) ≤ (k : Int)) = false := by rw [decide_eq_false_iff_not]; omega
                        obtain ⟨g2, rfl⟩ : ∃ g, ai = some ⟨g, 0, none⟩ := by
                          rcases own_addr (unhide HL) with ⟨_, h0, _⟩ | h
                          · omega
                          · exact h
                        have c1 := ((unhide HL).cellAt (k * 3) (by omega)).trans (unhide HS k hk2)
                        have c2 := ((unhide HM).cellAt (k * 3) (by omega)).trans ((unhide HE).1 k hk2)
                        have q1 : ((100 + (i : Int)) != (100 + (i : Int))) = false := by simp
                        go_wp2
                        go_roundw
                        case rel => exact ⟨k + 1, by simp, by omega, by simp⟩
                        case measure => simp [RowKit.intOf]; omega
                      · have k2 : decide ((k : Int) < (N : Int)) = false := by rw [decide_eq_false_iff_not]; omega
                        have k3 : (N : Int) ≤ (k : Int) := by omega
                        have c2 := ((unhide HM).cellAt (k * 3) (by omega)).trans ((unhide HE).2 k (by omega) hk)
                        have q1 : ((200 + (i : Int)) != (200 + (i : Int))) = false := by simp
                        go_wp2
                        go_roundw
                        case rel => exact ⟨k + 1, by simp, by omega, by simp⟩
                        case measure => simp [RowKit.intOf]; omega
                    · have k1 : decide ((k : Int) < (((N + 20 : Nat)) : Int)) = false := by rw [decide_eq_false_iff_not]; omega
                      have k1' : decide ((k : Int) < (N : Int) + 20) = false := by rw [decide_eq_false_iff_not]; omega
                      go_wp2
                      go_roundw
                      case rel => exact ⟨i + 1, by simp, by omega, by simp⟩
                      case measure => simp [RowKit.intOf]; omega
                · have d6 : decide ((i : Int) < 6) = false := by rw [decide_eq_false_iff_not]; omega
                  have hbel := (unhide hG6).fm.bel
                  have RW := hide ((unhide Rw).below hbel)
                  have hB := bnext hBw hbel
                  clear hi hi6 hG6 Rw hbel hBw
                  go_wp2_with fail
                  refine (unhide (hmk _)).mono ?_
                  rintro e W7 ⟨u7', rfl, ho7, hB7⟩
                  have R7 := hide (RE.of_owns ho7)
                  replace RW := hide ((unhide RW).below hB7)
                  replace hB := bnext hB hB7
                  clear ho7 hB7
                  go_wp2_with fail
                  refine (eqE_in R R _ _ _ (unhide R7) (unhide RW) (by omega) (by omega)).mono ?_
                  rintro e W8 ⟨rfl, k8, rfl⟩
                  rw [show decide (R = R) = true by simp]
                  have hdr : Below W7.heap.size W7 (W7.drewN k8) := bdrew (Below.refl _ _) k8
                  replace hB := bnext hB hdr
                  clear R7 RW hdr
                  go_wp2_with fail
                  refine (unhide (hkn _)).mono ?_
                  rintro e W9 ⟨rfl, hB9⟩
                  go_wp2
                  go_ret
                  exact ⟨rfl, bnext hB hB9⟩

set_option maxRecDepth 100000 in
set_option maxHeartbeats 4000000 in
theorem walk (a b : ByteArray) (w0 : a.size ≤ maxLen) (w1 : b.size ≤ maxLen) (W : World) :
    Calls Try.prog 3 #[.string a, .string b] W fun e W' => e = .returned (.bool true) ∧ Below W.heap.size W W' := by
  unfold maxLen at w0 w1
  by_cases h1 : 1200 < a.size
  · have d1 : decide ((1200 : Int) < ((a.size : Nat) : Int)) = true := by rw [decide_eq_true_iff]; omega
    go_enter Try.func3, Try.ntmps3
    go_wp2_with fail
    refine (known_in _).mono ?_
    rintro e W1 ⟨rfl, hB⟩
    go_wp2
    go_ret
    exact ⟨rfl, hB⟩
  · by_cases h2 : 1200 < b.size
    · have d1 : decide ((1200 : Int) < ((a.size : Nat) : Int)) = false := by rw [decide_eq_false_iff_not]; omega
      have d2 : decide ((1200 : Int) < ((b.size : Nat) : Int)) = true := by rw [decide_eq_true_iff]; omega
      go_enter Try.func3, Try.ntmps3
      go_wp2_with fail
      refine (known_in _).mono ?_
      rintro e W1 ⟨rfl, hB⟩
      go_wp2
      go_ret
      exact ⟨rfl, hB⟩
    · exact inner a b (by omega) (by omega) W

theorem own : ownKnob Try.prog.godebug = none := by kernel_rfl

set_option maxRecDepth 100000 in
theorem lifted (os : Os) (started : os.Started) (H : Type) (enc : TypeId × Value → H) :
    ReturnsInHanded {} Try.checked os 3 .any (Rows.diffOwnSpec.pre6 enc Try.prog Try.f3 Rows.diffOwnRow.domain false) (Rows.diffOwnSpec.post enc Try.prog Try.f3 false true false false) := by
  refine returnsInHanded_of_change (C := Try.checked) own started (by kernel_rfl) Try.func3
    (ChangeSpec.witness6 (enc := enc) (C := Try.checked) false ⟨#[], #[.string ByteArray.empty, .string ByteArray.empty], []⟩ 8 (by kernel_rfl) (by kernel_rfl) (by kernel_rfl) (by kernel_rfl)) ?_
  intro W base args ds gs before hval0 hW hcnd _
  have hval : ∀ (j : Nat) t v, Try.f3.params[j]? = some t → args[j]? = some v → Value.okWide Try.prog W .any base t v := hval0
  have hW' := hW
  obtain ⟨p, q, hA0, hV, rfl, hfz, hnd⟩ := hW
  have hA : DataW.TrodAll enc Try.prog W 0 (fun _ => true) true Try.f3.params.toList args.toList ds p := hA0
  rw [Try.params3] at hA hval
  obtain ⟨v0, vs0, d0, ds0, p0, q0, hargs, rfl, rfl, h0, r0⟩ := trodAll_cons hA
  obtain ⟨v1, vs1, d1, ds1, p1, q1, rfl, rfl, rfl, h1, r1⟩ := trodAll_cons r0
  obtain ⟨rfl, rfl, rfl⟩ := trodAll_nil r1
  obtain rfl : args = #[v0, v1] := by cases args; simp_all
  obtain ⟨rfl, rfl⟩ := trodVars_none hV
  obtain ⟨a0, rfl, rfl, rfl, w0⟩ := open_string Try.underlying9 (hval 0 9 v0 rfl rfl) h0
  obtain ⟨a1, rfl, rfl, rfl, w1⟩ := open_string Try.underlying9 (hval 1 9 v1 rfl rfl) h1
  clear hA0 hval0
  simp only [List.append_nil] at hW'
  refine (walk a0 a1 w0 w1 W).mono fun e W' ⟨he, bel⟩ => ?_
  subst he
  exact ⟨_, rfl, _, _, _, [], _, [], hW', trodAll_mk1 (shut_bool Try.underlying4 _), (trodAll_cons_mk (shut_string Try.underlying9 w0) (trodAll_cons_mk (shut_string Try.underlying9 w1) trodAll_mk0)), rfl, bel.frame _, fun h => by cases h⟩

theorem over : Rows.diffOwnRow.holds Try.pinned (OpenSpec.ofChange Rows.diffOwnSpec) :=
  OpenClaim.holds_of_wide 3 Try.f3 rfl rfl rfl rfl rfl rfl rfl ⟨rfl, rfl, rfl, rfl, rfl⟩ rfl rfl rfl rfl rfl (by kernel_rfl) Try.func3 (by kernel_rfl)
    (of_decide_eq_true (by kernel_rfl)) (by unfold Func.isWrapper; first | (rw [if_pos (by decide +kernel)]; kernel_rfl) | (rw [if_neg (by decide +kernel)]; exact ⟨rfl, rfl⟩))
    (fun os started H enc _ => lifted os started H enc)

end LDiffOwn

theorem diffOwn_holds : Rows.DiffOwnSaid := LDiffOwn.over

end Go.Proofs.Ytlbgfcbhpmhhpab
