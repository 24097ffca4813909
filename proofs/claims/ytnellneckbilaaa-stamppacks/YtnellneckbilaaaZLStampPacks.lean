/-
  Chapter 6's law StampPacks returns true for every list of identifiers, every identifier and every number, and leaves its arguments as they were; no condition.
-/
import Derived.Test.YtnellneckbilaaaRows
import Derived.WalkKit
import Derived.ProofKit
import Derived.OpenShut
import Derived.ShutString
import Derived.ChangeOld
import Derived.Below
import Derived.Test.YtnellneckbilaaaZPS3
import Derived.Test.YtnellneckbilaaaZEQi
import Derived.Test.YtnellneckbilaaaZQB
import Derived.Test.YtnellneckbilaaaZRF1
import Derived.Test.YtnellneckbilaaaZKN
import Derived.Test.YtnellneckbilaaaZOp
set_option linter.unusedVariables false
set_option linter.unusedSimpArgs false
namespace Go.Proofs.Ytnellneckbilaaa
namespace LStampPacks
open Go.ChangeShapes Go.WideShapes Go.ChangeAt Go.RowKit Go.Lib
open Go.ChangeMaps (open_string shut_string)

theorem packF_len (l : List (Int × Int)) : (packF l).length ≤ l.length := by
  have h := (stP_inv (sortI l) (sortI_sorted l)).1.len
  rw [packF_stP, (sortI_perm l).length_eq] at h
  exact h

set_option maxRecDepth 100000 in
set_option maxHeartbeats 4000000 in
theorem many (a0 : Option Addr) (len0 cap0 : Nat) (xt xs n : Int) (W : World) (h : 400 < len0) :
    Calls Try.prog 4 #[.slice a0 len0 cap0, .agg #[.int .i64 xt, .int .i64 xs], .int .i64 n] W fun e W' => e = .returned (.bool true) ∧ Below W.heap.size W W' := by
  have HK := hide (known_in (W.alloc (.cells #[.int .i64 xt, .int .i64 xs] 23)))
  have HB := hide (ballc (Below.refl _ W) (.cells #[.int .i64 xt, .int .i64 xs] 23))
  have h0' : (400 : Int) < (len0 : Int) := by omega
  clear h
  go_enter Try.func4, Try.ntmps4
  go_wp2_with (go_at_call 13; refine (unhide HK).mono ?_; rintro e W1 ⟨rfl, hb⟩)
  go_ret
  exact ⟨rfl, bnext (unhide HB) hb⟩

set_option maxRecDepth 100000 in
set_option maxHeartbeats 8000000 in
theorem walk (a0 : Option Addr) (len0 cap0 : Nat) (z0 : List (Int × Int)) (xt xs n : Int) (W : World)
    (w0 : RI W (.slice a0 len0 cap0) z0 ∧ z0.length = len0 ∧ len0 ≤ maxLen ∧ ∀ e ∈ z0, idIn e) (w1 : idIn (xt, xs)) (w2 : (Lit.int .i64 n).wf = true) :
    Calls Try.prog 4 #[.slice a0 len0 cap0, .agg #[.int .i64 xt, .int .i64 xs], .int .i64 n] W fun e W' => e = .returned (.bool true) ∧ Below W.heap.size W W' := by
  obtain ⟨h0, hl0, -, hin0⟩ := w0
  have hn64 := wf64 w2
  by_cases hm : 400 < len0
  · exact many a0 len0 cap0 xt xs n W hm
  · have mixed : Try.prog.follows .mixedOrders = true := by kernel_rfl
    have hn0 : ¬ (400 : Int) < (len0 : Int) := by omega
    have hs0 : len0 ≤ 400 := by omega
    subst hl0
    clear hm
    obtain ⟨WB, hWB⟩ : ∃ X, W.alloc (.cells #[.int .i64 xt, .int .i64 xs] 23) = X := ⟨_, rfl⟩
    have bB : Below W.heap.size W WB := by rw [← hWB]; exact ballc (Below.refl _ W) _
    have xB : Bx WB W.heap.size 23 #[.int .i64 xt, .int .i64 xs] := by rw [← hWB]; exact Bx.new W _ _
    have sB : WB.heap.size = W.heap.size + 1 := by rw [← hWB]; simp
    -- the list, and one identifier behind it
    obtain ⟨v1, W1, hap1, ho1, hg1⟩ := app_nil 28 23 2 16 _ Try.underlying28 infoI rfl (by decide) WB WB.heap.size 28 _ z0.length (flat encI z0) (RI.below h0 bB) (flat_len encI_len z0) encI_one (Nat.le_refl _) (by unfold maxLen; omega) (by omega)
    have b1 : Below WB.heap.size WB W1 := (Below.refl _ WB).grown hg1 (Nat.le_refl _) (fun k hk => by cases hk)
    obtain ⟨v2, W2, hap2, ho2, hg2⟩ := append_id W1 28 WB.heap.size v1 z0 77 7 ho1 b1.size (by omega)
    have b2 : Below WB.heap.size WB W2 := (ballc b1 _).grown hg2 (ballc b1 _).size (fun k hk => (ho1.lt k hk).1)
    obtain ⟨a1, c1, hv1⟩ := owns_form ho1
    subst hv1
    obtain ⟨a2, c2, hv2⟩ := owns_form ho2
    subst hv2
    have hrT : RI W2 (.slice a2 (z0 ++ [((77 : Int), (7 : Int))]).length c2) (z0 ++ [(77, 7)]) := RC.of_owns ho2
    have hrP : RI W2 (.slice a2 z0.length c2) z0 := RI.takeL hrT
    have hc2 : z0.length ≤ c2 := by
      obtain ⟨_, (⟨e1, e2⟩ | ⟨g, cap, cur, e1, _, _, e4, _⟩)⟩ := ho2
      · simp at e2
      · simp at e1 e4; omega
    have hlen2 : (z0 ++ [((77 : Int), (7 : Int))]).length = z0.length + 1 := by simp
    obtain ⟨g, rfl⟩ : ∃ g, a2 = some ⟨g, 0, none⟩ := by
      obtain ⟨_, (⟨e1, e2⟩ | ⟨g, cap', cur, e1, _⟩)⟩ := ho2
      · omega
      · simp at e1; exact ⟨g, e1.1⟩
    have hgw0 := ho2.lt g rfl
    have hgw : W.heap.size + 1 ≤ g ∧ g < W2.heap.size := by omega
    clear hgw0
    have hsl := fun W n => sl_toI W (some ⟨g, 0, none⟩) n c2 z0.length hc2
    have BW2 := hide (bnext bB b2)
    have HW0 := hide h0
    have H0 := hide (RI.below h0 (unhide BW2))
    have XB2 := hide (xB.below b2)
    have HP := hide hrP
    have Hin0 := hide hin0
    have HO2 := hide ho2
    have HPa := hide (Pack_in _ z0 W2 hrP hin0 (by omega))
    have hpl := packF_len z0
    rw [hlen2] at hap2
    replace hap1 := hide hap1
    replace hap2 := hide hap2
    obtain ⟨n0, e0⟩ : ∃ n0, z0.length = n0 := ⟨_, rfl⟩
    rw [e0] at hap1 hap2 hsl H0 HP HW0 hn0 hs0 hc2 HPa hpl ⊢
    have E0 := hide e0
    clear hrP hrT ho1 ho2 hg1 hg2 hin0 h0 b1 b2 bB xB sB hlen2 w2 e0
    go_enter Try.func4, Try.ntmps4
    go_wp2_with (at_builtin; first | refine wpList_append_eq rfl _ _ 28 rfl _ _ _ _ rfl rfl (unhide hap1) ?_ | refine wpList_append_eq rfl _ _ 28 rfl _ _ _ _ rfl rfl (unhide hap2) ?_)
    refine (unhide HPa).mono ?_
    rintro e W3 ⟨v3, rfl, ho3, hb3⟩
    obtain ⟨a3, c3, hv3⟩ := owns_form ho3
    subst hv3
    have HO3 := hide ho3
    have B3 := hide hb3
    have HRa := hide (refPack_in _ z0 W3 ((unhide E0) ▸ (unhide H0).below hb3) (by have := unhide E0; omega))
    rw [unhide E0] at HRa
    obtain ⟨q, hq⟩ : ∃ q, (packF z0).length = q := ⟨_, rfl⟩
    rw [hq] at hpl ⊢
    have Hq := hide hq
    clear HPa ho3 hb3 hap1 hap2 hWB hq
    go_wp2_with fail
    refine (unhide HRa).mono ?_
    rintro e W4 ⟨v4, rfl, ho4, hb4⟩
    obtain ⟨a4, c4, hv4⟩ := owns_form ho4
    subst hv4
    have HRu := hide (runs_in (packF z0) (packF z0) _ _ W4 (RR.below (RC.of_owns (unhide HO3)) hb4) (RC.of_owns ho4) (by have := unhide Hq; omega) (by have := unhide Hq; omega))
    have hdd : decide (packF z0 = packF z0) = true := by simp
    rw [hdd, unhide Hq] at HRu
    rw [unhide Hq]
    have B4 := hide (bnext (unhide B3) hb4)
    have B34 := hide hb4
    clear HRa ho4 hb4 hdd
    go_wp2_with fail
    refine (unhide HRu).mono ?_
    rintro e W5 ⟨rfl, k5, hW5⟩
    have B5 : Hid (Below W2.heap.size W2 W5) := by rw [hW5]; exact bdrew (unhide B4) k5
    have B35 : Hid (Below W3.heap.size W3 W5) := by rw [hW5]; exact bdrew (unhide B34) k5
    have HId := hide (ids_in z0 z0 _ _ W5 ((unhide HP).below (unhide B5)) ((unhide H0).below (unhide B5)) (by have := unhide E0; omega) (by have := unhide E0; omega))
    have hdd : decide (z0 = z0) = true := by simp
    rw [hdd] at HId
    clear HRu hW5 hdd
    go_wp2_with fail
    refine (unhide HId).mono ?_
    rintro e W6 ⟨rfl, k6, hW6⟩
    have B6 : Hid (Below W2.heap.size W2 W6) := by rw [hW6]; exact bdrew (unhide B5) k6
    have B36 : Hid (Below W3.heap.size W3 W6) := by rw [hW6]; exact bdrew (unhide B35) k6
    have hrow := owns_kp (N := fun _ => False) (unhide HO2) (Kp.of_below (unhide B6)) (fun _ _ h => h)
    have hlen2 : (z0 ++ [((77 : Int), (7 : Int))]).length = n0 + 1 := by simp; exact unhide E0
    have c70 := (hrow.cellAt (n0 * 2) (by omega)).trans (flat_get encI_len _ n0 0 (77, 7) (by have := unhide E0; simp [← this]) (by omega))
    have c71 := (hrow.cellAt (n0 * 2 + 1) (by omega)).trans (flat_get encI_len _ n0 1 (77, 7) (by have := unhide E0; simp [← this]) (by omega))
    simp only [encI, List.getElem?_cons_zero, List.getElem?_cons_succ] at c70 c71
    have heq := fun W => neqI 77 7 77 7 W
    have hdd : decide (((77 : Int), (7 : Int)) = (77, 7)) = true := by simp
    rw [hdd] at heq
    simp only [Bool.not_true] at heq
    have HO6 := hide hrow
    clear HId hW6 hdd hrow
    by_cases hz : n0 = 0
    · have HK := hide (known_in W6)
      have hz' : (n0 : Int) = 0 := by omega
      subst hz
      go_wp2_with fail
      refine (unhide HK).mono ?_
      rintro e W7 ⟨rfl, hb7⟩
      go_wp2
      go_ret
      exact ⟨rfl, bnext (bnext (unhide BW2) (unhide B6)) hb7⟩
    · have hz' : ¬ (n0 : Int) = 0 := by omega
      have hz2 : (0 : Int) < (n0 : Int) := by omega
      have hr1 : n.tmod (n0 : Int) < (n0 : Int) := Int.tmod_lt_of_pos n hz2
      have hr2 : -(n0 : Int) < n.tmod (n0 : Int) := by
        have h1 := Int.tmod_lt_of_pos (-n) hz2
        rw [Int.neg_tmod] at h1
        omega
      by_cases hneg : n.tmod (n0 : Int) < 0
      · obtain ⟨j, hj⟩ : ∃ j : Nat, n.tmod (n0 : Int) = (j : Int) - (n0 : Int) := ⟨(n.tmod (n0 : Int) + n0).toNat, by omega⟩
        rw [hj] at hneg hr1 hr2
        have hwa : IntKind.i64.wrap ((j : Int) - (n0 : Int) + (n0 : Int)) = (j : Int) := by rw [show (j : Int) - (n0 : Int) + (n0 : Int) = (j : Int) by omega]; exact IntWalk.i64_in _ (by omega)
        have hwa2 : wrap64 ((j : Int) - (n0 : Int) + (n0 : Int)) = (j : Int) := by unfold wrap64; omega
        have hjn' : (j : Int) < (n0 : Int) := by omega
        have hjl : j < (z0 ++ [((77 : Int), (7 : Int))]).length := by omega
        have hrow := unhide HO6
        have cz0 : ∃ u, W6.cell? ⟨g, j * 2, none⟩ = some u := ⟨_, (hrow.cellAt (j * 2) (by omega)).trans (List.getElem?_eq_getElem (by rw [flat_len encI_len]; omega))⟩
        have cz1 : ∃ u, W6.cell? ⟨g, j * 2 + 1, none⟩ = some u := ⟨_, (hrow.cellAt (j * 2 + 1) (by omega)).trans (List.getElem?_eq_getElem (by rw [flat_len encI_len]; omega))⟩
        obtain ⟨u0, cz0⟩ := cz0
        obtain ⟨u1, cz1⟩ := cz1
        have fz0 := hrow.frozenAt (j * 2)
        have fz1 := hrow.frozenAt (j * 2 + 1)
        obtain ⟨o7, g7⟩ := owns_setI hrow j xt xs hjl
        have kp7 : Kp (fun k => k = g) W6 ((W6.setCell ⟨g, j * 2, none⟩ (.int .i64 xt)).setCell ⟨g, j * 2 + 1, none⟩ (.int .i64 xs)) := Kp.of_grown g7 (fun k hk => by simp at hk; exact hk.symm)
        obtain ⟨X7, hX7⟩ : ∃ X, (W6.setCell ⟨g, j * 2, none⟩ (.int .i64 xt)).setCell ⟨g, j * 2 + 1, none⟩ (.int .i64 xs) = X := ⟨_, rfl⟩
        rw [hX7] at o7 kp7
        have hset : (z0 ++ [((77 : Int), (7 : Int))]).set j (xt, xs) = z0.set j (xt, xs) ++ [(77, 7)] := List.set_append_left _ _ (by have := unhide E0; omega)
        have hE1 : (z0.set j (xt, xs)).length = n0 := by rw [List.length_set]; exact unhide E0
        have hlen3 : (z0.set j (xt, xs) ++ [((77 : Int), (7 : Int))]).length = n0 + 1 := by simp; exact unhide E0
        rw [hset, hlen2, ← hlen3] at o7
        have hR7 : RI X7 (.slice (some ⟨g, 0, none⟩) (z0.set j (xt, xs)).length c2) (z0.set j (xt, xs)) := RI.takeL (RC.of_owns o7)
        have hin7 : ∀ e ∈ z0.set j (xt, xs), idIn e := fun e he => by
          rcases List.mem_or_eq_of_mem_set he with h | h
          · exact unhide Hin0 e h
          · rw [h]; exact w1
        have BX7 := hide (show Below W.heap.size W X7 from kp7.below (bnext (unhide BW2) (unhide B6)) (fun i hi => by rw [hi]; omega))
        have HO37 := hide (owns_kp (owns_kp (N := fun _ => False) (unhide HO3) (Kp.of_below (unhide B36)) (fun _ _ h => h)) kp7 (fun i hi e => by have := ((unhide HO3).lt i hi).1; omega))
        have H07 := hide (show RI X7 (.slice a0 n0 cap0) z0 from RI.below (unhide HW0) (unhide BX7))
        generalize z0.set j (xt, xs) = z7 at *
        rw [hE1] at hR7
        have HPa := hide (Pack_in _ z7 X7 hR7 hin7 (by omega))
        have hpl7 := packF_len z7
        rw [hE1] at hpl7
        have HR7 := hide hR7
        obtain ⟨xc0, xc1⟩ : W6.cell? ⟨W.heap.size, 0, none⟩ = some (.int .i64 xt) ∧ W6.cell? ⟨W.heap.size, 1, none⟩ = some (.int .i64 xs) := ⟨((unhide XB2).below (unhide B6)).cell 0 _ rfl, ((unhide XB2).below (unhide B6)).cell 1 _ rfl⟩
        have E7 := hide hE1
        clear hrow o7 g7 kp7 hset hlen3 hR7 hin7 hE1 hjl
        go_wp2_with fail
        refine (unhide HPa).mono ?_
        rintro e W8 ⟨v8, rfl, ho8, hb8⟩
        obtain ⟨a8, c8, hv8⟩ := owns_form ho8
        subst hv8
        obtain ⟨q7, hq7⟩ : ∃ q, (packF z7).length = q := ⟨_, rfl⟩
        rw [hq7] at hpl7 ⊢
        have Hq7 := hide hq7
        have HO8 := hide ho8
        have B8 := hide hb8
        have HRa := hide (refPack_in _ z7 W8 ((unhide HR7).below hb8) (by have := unhide E7; omega))
        clear HPa ho8 hb8 hX7 hq7 cz0 cz1 fz0 fz1 xc0 xc1 c70 c71
        go_wp2_with fail
        refine (unhide HRa).mono ?_
        rintro e W9 ⟨v9, rfl, ho9, hb9⟩
        obtain ⟨a9, c9, hv9⟩ := owns_form ho9
        subst hv9
        have HRu := hide (runs_in (packF z7) (packF z7) _ _ W9 (RR.below (RC.of_owns (unhide HO8)) hb9) (RC.of_owns ho9) (by have := unhide Hq7; omega) (by have := unhide Hq7; omega))
        have hdd : decide (packF z7 = packF z7) = true := by simp
        rw [hdd, unhide Hq7] at HRu
        rw [unhide Hq7]
        have B9 := hide (bnext (unhide B8) hb9)
        clear HRa ho9 hb9 hdd
        go_wp2_with fail
        refine (unhide HRu).mono ?_
        rintro e W10 ⟨rfl, k10, hW10⟩
        have B10 : Hid (Below X7.heap.size X7 W10) := by rw [hW10]; exact bdrew (unhide B9) k10
        have HRa := hide (refPack_in _ z0 W10 ((unhide H07).below (unhide B10)) (by have := unhide E0; omega))
        clear HRu hW10
        go_wp2_with fail
        refine (unhide HRa).mono ?_
        rintro e W11 ⟨v11, rfl, ho11, hb11⟩
        obtain ⟨a11, c11, hv11⟩ := owns_form ho11
        subst hv11
        have B11 := hide (bnext (unhide B10) hb11)
        have HRu := hide (runs_in (packF z0) (packF z0) _ _ W11 (RR.below (RC.of_owns (unhide HO37)) (unhide B11)) (RC.of_owns ho11) (by have := unhide Hq; omega) (by have := unhide Hq; omega))
        have hdd : decide (packF z0 = packF z0) = true := by simp
        rw [hdd, unhide Hq] at HRu
        rw [unhide Hq]
        clear HRa ho11 hb11 hdd
        go_wp2_with fail
        refine (unhide HRu).mono ?_
        rintro e W12 ⟨rfl, k12, hW12⟩
        have B12 : Hid (Below X7.heap.size X7 W12) := by rw [hW12]; exact bdrew (unhide B11) k12
        have HK := hide (known_in W12)
        clear HRu hW12
        go_wp2_with fail
        refine (unhide HK).mono ?_
        rintro e W13 ⟨rfl, hb13⟩
        go_wp2
        go_ret
        exact ⟨rfl, bnext (bnext (unhide BX7) (unhide B12)) hb13⟩
      · obtain ⟨j, hj⟩ : ∃ j : Nat, n.tmod (n0 : Int) = (j : Int) := ⟨(n.tmod (n0 : Int)).toNat, by omega⟩
        rw [hj] at hneg hr1 hr2
        have hjn' : (j : Int) < (n0 : Int) := by omega
        have hjl : j < (z0 ++ [((77 : Int), (7 : Int))]).length := by omega
        have hrow := unhide HO6
        have cz0 : ∃ u, W6.cell? ⟨g, j * 2, none⟩ = some u := ⟨_, (hrow.cellAt (j * 2) (by omega)).trans (List.getElem?_eq_getElem (by rw [flat_len encI_len]; omega))⟩
        have cz1 : ∃ u, W6.cell? ⟨g, j * 2 + 1, none⟩ = some u := ⟨_, (hrow.cellAt (j * 2 + 1) (by omega)).trans (List.getElem?_eq_getElem (by rw [flat_len encI_len]; omega))⟩
        obtain ⟨u0, cz0⟩ := cz0
        obtain ⟨u1, cz1⟩ := cz1
        have fz0 := hrow.frozenAt (j * 2)
        have fz1 := hrow.frozenAt (j * 2 + 1)
        obtain ⟨o7, g7⟩ := owns_setI hrow j xt xs hjl
        have kp7 : Kp (fun k => k = g) W6 ((W6.setCell ⟨g, j * 2, none⟩ (.int .i64 xt)).setCell ⟨g, j * 2 + 1, none⟩ (.int .i64 xs)) := Kp.of_grown g7 (fun k hk => by simp at hk; exact hk.symm)
        obtain ⟨X7, hX7⟩ : ∃ X, (W6.setCell ⟨g, j * 2, none⟩ (.int .i64 xt)).setCell ⟨g, j * 2 + 1, none⟩ (.int .i64 xs) = X := ⟨_, rfl⟩
        rw [hX7] at o7 kp7
        have hset : (z0 ++ [((77 : Int), (7 : Int))]).set j (xt, xs) = z0.set j (xt, xs) ++ [(77, 7)] := List.set_append_left _ _ (by have := unhide E0; omega)
        have hE1 : (z0.set j (xt, xs)).length = n0 := by rw [List.length_set]; exact unhide E0
        have hlen3 : (z0.set j (xt, xs) ++ [((77 : Int), (7 : Int))]).length = n0 + 1 := by simp; exact unhide E0
        rw [hset, hlen2, ← hlen3] at o7
        have hR7 : RI X7 (.slice (some ⟨g, 0, none⟩) (z0.set j (xt, xs)).length c2) (z0.set j (xt, xs)) := RI.takeL (RC.of_owns o7)
        have hin7 : ∀ e ∈ z0.set j (xt, xs), idIn e := fun e he => by
          rcases List.mem_or_eq_of_mem_set he with h | h
          · exact unhide Hin0 e h
          · rw [h]; exact w1
        have BX7 := hide (show Below W.heap.size W X7 from kp7.below (bnext (unhide BW2) (unhide B6)) (fun i hi => by rw [hi]; omega))
        have HO37 := hide (owns_kp (owns_kp (N := fun _ => False) (unhide HO3) (Kp.of_below (unhide B36)) (fun _ _ h => h)) kp7 (fun i hi e => by have := ((unhide HO3).lt i hi).1; omega))
        have H07 := hide (show RI X7 (.slice a0 n0 cap0) z0 from RI.below (unhide HW0) (unhide BX7))
        generalize z0.set j (xt, xs) = z7 at *
        rw [hE1] at hR7
        have HPa := hide (Pack_in _ z7 X7 hR7 hin7 (by omega))
        have hpl7 := packF_len z7
        rw [hE1] at hpl7
        have HR7 := hide hR7
        obtain ⟨xc0, xc1⟩ : W6.cell? ⟨W.heap.size, 0, none⟩ = some (.int .i64 xt) ∧ W6.cell? ⟨W.heap.size, 1, none⟩ = some (.int .i64 xs) := ⟨((unhide XB2).below (unhide B6)).cell 0 _ rfl, ((unhide XB2).below (unhide B6)).cell 1 _ rfl⟩
        have E7 := hide hE1
        clear hrow o7 g7 kp7 hset hlen3 hR7 hin7 hE1 hjl
        go_wp2_with fail
        refine (unhide HPa).mono ?_
        rintro e W8 ⟨v8, rfl, ho8, hb8⟩
        obtain ⟨a8, c8, hv8⟩ := owns_form ho8
        subst hv8
        obtain ⟨q7, hq7⟩ : ∃ q, (packF z7).length = q := ⟨_, rfl⟩
        rw [hq7] at hpl7 ⊢
        have Hq7 := hide hq7
        have HO8 := hide ho8
        have B8 := hide hb8
        have HRa := hide (refPack_in _ z7 W8 ((unhide HR7).below hb8) (by have := unhide E7; omega))
        clear HPa ho8 hb8 hX7 hq7 cz0 cz1 fz0 fz1 xc0 xc1 c70 c71
        go_wp2_with fail
        refine (unhide HRa).mono ?_
        rintro e W9 ⟨v9, rfl, ho9, hb9⟩
        obtain ⟨a9, c9, hv9⟩ := owns_form ho9
        subst hv9
        have HRu := hide (runs_in (packF z7) (packF z7) _ _ W9 (RR.below (RC.of_owns (unhide HO8)) hb9) (RC.of_owns ho9) (by have := unhide Hq7; omega) (by have := unhide Hq7; omega))
        have hdd : decide (packF z7 = packF z7) = true := by simp
        rw [hdd, unhide Hq7] at HRu
        rw [unhide Hq7]
        have B9 := hide (bnext (unhide B8) hb9)
        clear HRa ho9 hb9 hdd
        go_wp2_with fail
        refine (unhide HRu).mono ?_
        rintro e W10 ⟨rfl, k10, hW10⟩
        have B10 : Hid (Below X7.heap.size X7 W10) := by rw [hW10]; exact bdrew (unhide B9) k10
        have HRa := hide (refPack_in _ z0 W10 ((unhide H07).below (unhide B10)) (by have := unhide E0; omega))
        clear HRu hW10
        go_wp2_with fail
        refine (unhide HRa).mono ?_
        rintro e W11 ⟨v11, rfl, ho11, hb11⟩
        obtain ⟨a11, c11, hv11⟩ := owns_form ho11
        subst hv11
        have B11 := hide (bnext (unhide B10) hb11)
        have HRu := hide (runs_in (packF z0) (packF z0) _ _ W11 (RR.below (RC.of_owns (unhide HO37)) (unhide B11)) (RC.of_owns ho11) (by have := unhide Hq; omega) (by have := unhide Hq; omega))
        have hdd : decide (packF z0 = packF z0) = true := by simp
        rw [hdd, unhide Hq] at HRu
        rw [unhide Hq]
        clear HRa ho11 hb11 hdd
        go_wp2_with fail
        refine (unhide HRu).mono ?_
        rintro e W12 ⟨rfl, k12, hW12⟩
        have B12 : Hid (Below X7.heap.size X7 W12) := by rw [hW12]; exact bdrew (unhide B11) k12
        have HK := hide (known_in W12)
        clear HRu hW12
        go_wp2_with fail
        refine (unhide HK).mono ?_
        rintro e W13 ⟨rfl, hb13⟩
        go_wp2
        go_ret
        exact ⟨rfl, bnext (bnext (unhide BX7) (unhide B12)) hb13⟩

theorem own : ownKnob Try.prog.godebug = none := by kernel_rfl
theorem laidOut2 : laidOutB Try.prog = true := by kernel_rfl

set_option maxRecDepth 100000 in
theorem lifted (os : Os) (started : os.Started) (H : Type) (enc : TypeId × Value → H) :
    ReturnsInHanded {} Try.checked os 4 .any (Rows.stampPacksSpec.pre6 enc Try.prog Try.f4 Rows.stampPacksRow.domain false) (Rows.stampPacksSpec.post enc Try.prog Try.f4 false true false false) := by
  refine returnsInHanded_of_change (C := Try.checked) own started (by kernel_rfl) Try.func4
    (ChangeSpec.witness6 (enc := enc) (C := Try.checked) false ⟨#[], #[.slice none 0 0, .agg #[.int .i64 0, .int .i64 0], .int .i64 0], []⟩ 8 (by kernel_rfl) (by kernel_rfl) (by kernel_rfl) (by kernel_rfl)) ?_
  intro W base args ds gs before hval0 hW hcnd _
  have hval : ∀ (j : Nat) t v, Try.f4.params[j]? = some t → args[j]? = some v → Value.okWide Try.prog W .any base t v := hval0
  have hW' := hW
  obtain ⟨p, q, hA0, hV, rfl, hfz, hnd⟩ := hW
  have hA : DataW.TrodAll enc Try.prog W 0 (fun _ => true) true Try.f4.params.toList args.toList ds p := hA0
  rw [Try.params4] at hA hval
  obtain ⟨v0, vs0, d0, ds0, p0, q0, hargs, rfl, rfl, h0, r0⟩ := trodAll_cons hA
  obtain ⟨v1, vs1, d1, ds1, p1, q1, rfl, rfl, rfl, h1, r1⟩ := trodAll_cons r0
  obtain ⟨v2, vs2, d2, ds2, p2, q2, rfl, rfl, rfl, h2, r2⟩ := trodAll_cons r1
  obtain ⟨rfl, rfl, rfl⟩ := trodAll_nil r2
  obtain rfl : args = #[v0, v1, v2] := by cases args; simp_all
  obtain ⟨rfl, rfl⟩ := trodVars_none hV
  obtain ⟨a0, len0, cap0, rfl⟩ := okWide_slice Try.underlying28 (hval 0 28 v0 rfl rfl)
  have k0 := h0
  have lt0 : ∀ x ∈ p0, x.block < W.heap.size := by obtain ⟨m, hm⟩ := k0; exact DataW.trod_lt m _ _ _ hm
  obtain ⟨z0, w0⟩ : ∃ l : List (Int × Int), RI W (.slice a0 len0 cap0) l ∧ l.length = len0 ∧ len0 ≤ maxLen ∧ ∀ e ∈ l, idIn e := by
    obtain ⟨fuel, hf⟩ := h0
    simp only [Value.cells] at hf
    exact open_ids hf
  have k1 := h1
  have lt1 : ∀ x ∈ p1, x.block < W.heap.size := by obtain ⟨m, hm⟩ := k1; exact DataW.trod_lt m _ _ _ hm
  obtain ⟨a1, b1, rfl, w1⟩ := open_id (hval 1 23 v1 rfl rfl) h1
  obtain ⟨a2, rfl, rfl, rfl, w2⟩ := open_int Try.underlying3 (hval 2 3 v2 rfl rfl) h2
  clear hA0 hval0
  refine (walk a0 len0 cap0 z0 a1 b1 a2 W w0 w1 w2).mono fun e W' ⟨he, bel⟩ => ?_
  subst he
  exact ⟨_, rfl, _, _, _, [], _, [], hW', trodAll_mk1 (shut_bool Try.underlying4 _), (trodAll_cons_mk (Below.trod laidOut2 (by kernel_rfl) (of_decide_eq_true (by kernel_rfl)) k0 bel lt0) (trodAll_cons_mk (Below.trod laidOut2 (by kernel_rfl) (of_decide_eq_true (by kernel_rfl)) k1 bel lt1) (trodAll_cons_mk (shut_int Try.underlying3 w2) trodAll_mk0))), rfl, bel.frame _, fun h => by cases h⟩

theorem over : Rows.stampPacksRow.holds Try.pinned (OpenSpec.ofChange Rows.stampPacksSpec) :=
  OpenClaim.holds_of_wide 4 Try.f4 rfl rfl rfl rfl rfl rfl rfl ⟨rfl, rfl, rfl, rfl, rfl⟩ rfl rfl rfl rfl rfl (by kernel_rfl) Try.func4 (by kernel_rfl)
    (of_decide_eq_true (by kernel_rfl)) (by unfold Func.isWrapper; first | (rw [if_pos (by decide +kernel)]; kernel_rfl) | (rw [if_neg (by decide +kernel)]; exact ⟨rfl, rfl⟩))
    (fun os started H enc _ => lifted os started H enc)

end LStampPacks

theorem stampPacks_holds : Rows.StampPacksSaid := LStampPacks.over

end Go.Proofs.Ytnellneckbilaaa
