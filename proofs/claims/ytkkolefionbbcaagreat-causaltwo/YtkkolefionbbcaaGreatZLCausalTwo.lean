/-
  Chapter 13's law CausalTwo returns true for every hold and every two scripts, and leaves its arguments as they were; no condition.
-/
import Derived.Test.YtkkolefionbbcaaGreatRows
import Derived.WalkKit
import Derived.ProofKit
import Derived.OpenShut
import Derived.ShutString
import Derived.ChangeOld
import Derived.Below
import Derived.Test.YtkkolefionbbcaaGreatZCD6
import Derived.Deep.CutRange
set_option linter.unusedVariables false
set_option linter.unusedSimpArgs false
namespace Go.Proofs.YtkkolefionbbcaaGreat
namespace LCausalTwo
open Go.ChangeShapes Go.WideShapes Go.ChangeAt Go.RowKit Go.Lib
open Go.ChangeMaps (open_string shut_string)

set_option maxRecDepth 100000 in
set_option maxHeartbeats 16000000 in
theorem walk (hold : Int) (a0 : Option Addr) (len0 cap0 : Nat) (ss : List Stp) (a1 : Option Addr) (len1 cap1 : Nat) (tt : List Stp) (w : World) (h0 : (Lit.int .i64 hold).wf = true) (w1 : RC w (.slice a0 len0 cap0) ss.length (flat encS ss) ∧ ss.length = len0 ∧ len0 ≤ maxLen ∧ ∀ e ∈ ss, StW w e) (w2 : RC w (.slice a1 len1 cap1) tt.length (flat encS tt) ∧ tt.length = len1 ∧ len1 ≤ maxLen ∧ ∀ e ∈ tt, StW w e) :
    Calls Tryz.prog 4 #[.int .i64 hold, .slice a0 len0 cap0, .slice a1 len1 cap1] w fun e W => e = .returned (.bool true) ∧ Below w.heap.size w W := by
  obtain ⟨hrA, hlnA, hmxA, hstA⟩ := w1
  obtain ⟨hrB, hlnB, hmxB, hstB⟩ := w2
  unfold maxLen at hmxA hmxB
  have HK := hide (fun W => known_in W)
  clear h0
  have HMu := hide (much_in a0 len0 cap0 ss w hrA hlnA hstA hmxA)
  have HMv := hide (fun W (hb : Below w.heap.size w W) => much_in a1 len1 cap1 tt W (RC.below hrB hb) hlnB (fun s hs => (hstB s hs).below hb) hmxB)
  obtain ⟨M, hM⟩ : ∃ M, muchB ss = M := ⟨_, rfl⟩
  rw [hM] at HMu
  cases M with
  | true =>
    clear hrA hlnA hstA hM hrB hlnB hstB HMv
    go_enter Tryz.func4, Tryz.ntmps4
    go_wp2_with fail
    refine (unhide HMu).mono ?_
    rintro e W1 ⟨rfl, b1⟩
    replace b1 := hide b1
    go_wp2_with fail
    refine (unhide HK _).mono ?_
    rintro r W2 ⟨rfl, hb2⟩
    go_wp2
    go_ret
    exact ⟨rfl, bnext (unhide b1) hb2⟩
  | false =>
    obtain ⟨M2, hM2⟩ : ∃ M, muchB tt = M := ⟨_, rfl⟩
    rw [hM2] at HMv
    cases M2 with
    | true =>
      clear hrA hlnA hstA hM hM2 hrB hlnB hstB
      go_enter Tryz.func4, Tryz.ntmps4
      go_wp2_with fail
      refine (unhide HMu).mono ?_
      rintro e W1 ⟨rfl, b1⟩
      replace b1 := hide b1
      go_wp2_with fail
      refine (unhide HMv _ (unhide b1)).mono ?_
      rintro e W2 ⟨rfl, b2⟩
      have B2 := hide (bnext (unhide b1) b2)
      clear b2
      go_wp2_with fail
      refine (unhide HK _).mono ?_
      rintro r W3 ⟨rfl, hb2⟩
      go_wp2
      go_ret
      exact ⟨rfl, bnext (unhide B2) hb2⟩
    | false =>
      have hsmA := much_small hM
      have hsmB := much_small hM2
      have hlA : len0 ≤ 300 := by rw [← hlnA]; exact hsmA.1
      have hlB : len1 ≤ 300 := by rw [← hlnB]; exact hsmB.1
      have HsmA := hide hsmA.2
      have HlnA := hide hlnA
      have HrA := hide hrA
      have HstA := hide hstA
      have HsmB := hide hsmB.2
      have HlnB := hide hlnB
      have HrB := hide hrB
      have HstB := hide hstB
      clear hM hM2 hsmA hsmB hlnA hrA hstA hlnB hrB hstB
      obtain ⟨ec, hec⟩ : ∃ ec, newC hold [] = ec := ⟨_, rfl⟩
      have HNP := hide (fun W => newP_in hold (.slice none 0 0) [] W (RC.nil _ _ _) (by simp))
      have HND := hide (fun W => newD_in hold (.slice none 0 0) [] W (RC.nil _ _ _) (by simp))
      rw [hec] at HNP HND
      have HNP3 := hide (fun W => newP_in 3 (.slice none 0 0) [] W (RC.nil _ _ _) (by simp))
      have HND3 := hide (fun W => newD_in 3 (.slice none 0 0) [] W (RC.nil _ _ _) (by simp))
      rw [show newC 3 [] = 0 from rfl] at HNP3 HND3
      clear hec
      go_enter Tryz.func4, Tryz.ntmps4
      go_wp2_with fail
      refine (unhide HMu).mono ?_
      rintro e W1 ⟨rfl, b1⟩
      replace b1 := hide b1
      clear HMu
      go_wp2_with fail
      refine (unhide HMv _ (unhide b1)).mono ?_
      rintro e W2 ⟨rfl, b2⟩
      have B2 := hide (bnext (unhide b1) b2)
      clear b2 HMv b1
      go_wp2_with fail
      refine (unhide HNP _).mono ?_
      rintro e Y1 ⟨po, rfl, hp, b3⟩
      have HP := hide hp
      have B3 := hide b3
      clear hp b3 HNP
      go_wp2_with fail
      refine (unhide HNP3 _).mono ?_
      rintro e Y2 ⟨qo, rfl, hq, b4⟩
      have HQ := hide hq
      have B4 := hide b4
      clear hq b4 HNP3
      go_wp2_with fail
      refine (unhide HND _).mono ?_
      rintro e Y3 ⟨uo, rfl, hu, b5⟩
      have HU := hide hu
      have B5 := hide b5
      clear hu b5 HND
      go_wp2_with fail
      refine (unhide HND3 _).mono ?_
      rintro e Y4 ⟨wo, rfl, hv, b6⟩
      rcases unhide HQ with ⟨_, _, _, q, rfl, hqp⟩ | ⟨h, _⟩
      rotate_left
      · exact absurd rfl h
      rcases hv with ⟨_, v, rfl, hvd⟩ | ⟨h, _⟩
      rotate_left
      · exact absurd rfl h
      have hb23 := (unhide B3)
      have hee : (ec != ec) = false := by simp
      have HQ3 : Hid (DQ w (fun i => (Y1.heap.size ≤ i ∧ i < Y2.heap.size) ∨ (Y3.heap.size ≤ i ∧ i < Y4.heap.size)) q v 3 0 Y4) := hide (DQ.new (by decide) rfl hqp (unhide B5) (hvd w) b6 (bnext (unhide B2) (unhide B3)) (unhide B4))
      have HBW := hide (unhide HQ3).bel
      rcases unhide HP with ⟨rfl, hd, hck, p, rfl, hpp⟩ | ⟨hec, rfl⟩
      · rcases unhide HU with ⟨_, u, rfl, hud⟩ | ⟨h, _⟩
        rotate_left
        · exact absurd rfl h
        have HD : Hid (D4 w p u hold q v 3 0 Y4) := hide (by
          have k1 := DQ.new hd.1 hck hpp (unhide B4) (hud w) (unhide B5) (unhide B2) (unhide B3)
          refine ⟨_, _, k1.below b6, unhide HQ3, fun k e e' => ?_⟩
          have := (unhide B3).size
          have := (unhide B4).size
          have := (unhide B5).size
          have := b6.size
          omega)
        clear HND3 hqp hvd hpp hud HP HQ HU B2 B3 B4 B5 b6 HQ3 HBW hb23 hck
        go_wp2
        go_loopw [15] (fun iv wq => ∃ i : Nat, iv = .int .i64 (i : Nat) ∧ i ≤ 300 ∧ Hid (D4 w p u hold q v 3 (2 * i) wq)) (fun iv _ => 301 - (RowKit.intOf iv).toNat)
        case atStart => exact ⟨0, rfl, by omega, HD⟩
        case round =>
          clear HD
          obtain ⟨i, rfl, hi, HD⟩ := hrel
          have HBW := hide (unhide HD).bel
          by_cases hA : i < len0
          · have hA' : (i : Int) < (len0 : Int) := by omega
            obtain ⟨sA, hxA⟩ : ∃ s, ss[i]? = some s := ⟨_, List.getElem?_eq_getElem (by rw [unhide HlnA]; omega)⟩
            obtain ⟨gA, offA, rfl, hgA, hcwA⟩ := rs_at (unhide HrA) hxA
            have hcA := fun q v h => cell_below (hcwA q v h) (unhide HBW)
            have hstA := unhide HstA sA (List.mem_of_getElem? hxA)
            have hsmA := unhide HsmA sA (List.mem_of_getElem? hxA)
            obtain ⟨adA, cdA, hvdA⟩ := hstA.d
            obtain ⟨agA, cgA, hvgA⟩ := hstA.g
            have q0A := hcA 0 _ rfl
            have q1A := hcA 1 _ rfl
            have q2A := hcA 2 _ rfl
            have q3A := hcA 3 _ rfl
            have q4A := hcA 4 _ rfl
            have q5A := hcA 5 _ rfl
            have q6A := hcA 6 _ rfl
            have q7A := hcA 7 _ rfl
            have q8A := hcA 8 _ rfl
            have q9A := hcA 9 _ rfl
            have q10A := hcA 10 _ rfl
            have q11A := hcA 11 _ rfl
            have q12A := hcA 12 _ rfl
            rw [hvdA] at q2A
            rw [hvgA] at q9A
            simp only [Nat.add_zero] at q0A
            have HDo := hide ((unhide HD).does (by omega) hd sA adA agA cdA cgA hstA hvdA hvgA hsmA.1 hsmA.2.1 hsmA.2.2)
            clear hxA hcwA hcA hstA hsmA hvdA hvgA
            by_cases hB : i < len1
            · have hB' : (i : Int) < (len1 : Int) := by omega
              obtain ⟨sB, hxB⟩ : ∃ s, tt[i]? = some s := ⟨_, List.getElem?_eq_getElem (by rw [unhide HlnB]; omega)⟩
              obtain ⟨gB, offB, rfl, hgB, hcwB⟩ := rs_at (unhide HrB) hxB
              have hstB := unhide HstB sB (List.mem_of_getElem? hxB)
              have hsmB := unhide HsmB sB (List.mem_of_getElem? hxB)
              obtain ⟨adB, cdB, hvdB⟩ := hstB.d
              obtain ⟨agB, cgB, hvgB⟩ := hstB.g
              have HcB := hide (fun X (hX : Below w.heap.size w X) q v h => cell_below (hcwB q v h) hX)
              have HDoB := hide (fun X (h : D4 w p u hold q v 3 (2 * i + 1) X) => h.swap.does (by omega) (by decide) sB adB agB cdB cgB hstB hvdB hvgB hsmB.1 hsmB.2.1 hsmB.2.2)
              have HvB := hide (And.intro hvdB hvgB)
              clear hxB hcwB hstB hsmB hvdB hvgB
              go_wp2_with fail
              refine (unhide HDo).mono ?_
              rintro e X ⟨rfl, hd2⟩
              have hcB := unhide HcB X hd2.bel
              have z0 := hcB 0 _ rfl
              have z1 := hcB 1 _ rfl
              have z2 := hcB 2 _ rfl
              have z3 := hcB 3 _ rfl
              have z4 := hcB 4 _ rfl
              have z5 := hcB 5 _ rfl
              have z6 := hcB 6 _ rfl
              have z7 := hcB 7 _ rfl
              have z8 := hcB 8 _ rfl
              have z9 := hcB 9 _ rfl
              have z10 := hcB 10 _ rfl
              have z11 := hcB 11 _ rfl
              have z12 := hcB 12 _ rfl
              rw [(unhide HvB).1] at z2
              rw [(unhide HvB).2] at z9
              simp only [Nat.add_zero] at z0
              have HDo2 := hide (unhide HDoB X hd2)
              clear HDo hd2 HD HBW hcB HDoB HcB q0A q1A q2A q3A q4A q5A q6A q7A q8A q9A q10A q11A q12A
              go_wp2_with fail
              refine (unhide HDo2).mono ?_
              rintro e X2 ⟨rfl, hd3⟩
              have HD3 := hide (hd3.swap)
              clear HDo2 hd3 z0 z1 z2 z3 z4 z5 z6 z7 z8 z9 z10 z11 z12
              go_wp2
              go_roundw
              case rel => exact ⟨i + 1, by go_num, by omega, hide ((unhide HD3).more (by omega))⟩
              case measure => show 301 - ((i : Int) + 1).toNat < 301 - ((i : Nat) : Int).toNat; omega
            · have hB' : ¬ (i : Int) < (len1 : Int) := by omega
              go_wp2_with fail
              refine (unhide HDo).mono ?_
              rintro e X ⟨rfl, hd2⟩
              have HD2 := hide hd2
              clear HDo hd2 HD HBW q0A q1A q2A q3A q4A q5A q6A q7A q8A q9A q10A q11A q12A
              go_wp2
              go_roundw
              case rel => exact ⟨i + 1, by go_num, by omega, hide ((unhide HD2).more (by omega))⟩
              case measure => show 301 - ((i : Int) + 1).toNat < 301 - ((i : Nat) : Int).toNat; omega
          · have hA' : ¬ (i : Int) < (len0 : Int) := by omega
            by_cases hB : i < len1
            · have hB' : (i : Int) < (len1 : Int) := by omega
              obtain ⟨sB, hxB⟩ : ∃ s, tt[i]? = some s := ⟨_, List.getElem?_eq_getElem (by rw [unhide HlnB]; omega)⟩
              obtain ⟨gB, offB, rfl, hgB, hcwB⟩ := rs_at (unhide HrB) hxB
              have hcB := fun q v h => cell_below (hcwB q v h) (unhide HBW)
              have hstB := unhide HstB sB (List.mem_of_getElem? hxB)
              have hsmB := unhide HsmB sB (List.mem_of_getElem? hxB)
              obtain ⟨adB, cdB, hvdB⟩ := hstB.d
              obtain ⟨agB, cgB, hvgB⟩ := hstB.g
              have q0B := hcB 0 _ rfl
              have q1B := hcB 1 _ rfl
              have q2B := hcB 2 _ rfl
              have q3B := hcB 3 _ rfl
              have q4B := hcB 4 _ rfl
              have q5B := hcB 5 _ rfl
              have q6B := hcB 6 _ rfl
              have q7B := hcB 7 _ rfl
              have q8B := hcB 8 _ rfl
              have q9B := hcB 9 _ rfl
              have q10B := hcB 10 _ rfl
              have q11B := hcB 11 _ rfl
              have q12B := hcB 12 _ rfl
              rw [hvdB] at q2B
              rw [hvgB] at q9B
              simp only [Nat.add_zero] at q0B
              have HDo := hide ((unhide HD).swap.does (by omega) (by decide) sB adB agB cdB cgB hstB hvdB hvgB hsmB.1 hsmB.2.1 hsmB.2.2)
              clear hxB hcwB hcB hstB hsmB hvdB hvgB
              go_wp2_with fail
              refine (unhide HDo).mono ?_
              rintro e X ⟨rfl, hd2⟩
              have HD2 := hide hd2.swap
              clear HDo hd2 HD HBW q0B q1B q2B q3B q4B q5B q6B q7B q8B q9B q10B q11B q12B
              go_wp2
              go_roundw
              case rel => exact ⟨i + 1, by go_num, by omega, hide ((unhide HD2).more (by omega))⟩
              case measure => show 301 - ((i : Int) + 1).toNat < 301 - ((i : Nat) : Int).toNat; omega
            · have hB' : ¬ (i : Int) < (len1 : Int) := by omega
              go_wp2_with fail
              refine (unhide HK _).mono ?_
              rintro r W2 ⟨rfl, hb2⟩
              go_wp2
              go_ret
              exact ⟨rfl, bnext (unhide HBW) hb2⟩
      · have hec' : (ec != 0) = true := by simpa using hec
        rcases unhide HU with ⟨h, _⟩ | ⟨_, rfl⟩
        · exact absurd h hec
        have HD : Hid (DP w q v 3 0 Y4) := hide ⟨_, unhide HQ3⟩
        clear HND3 hqp hvd HP HQ HU B2 B3 B4 B5 b6 HQ3 HBW hb23 hec
        go_wp2
        go_loopw [15] (fun iv wq => ∃ i : Nat, iv = .int .i64 (i : Nat) ∧ i ≤ 300 ∧ Hid (DP w q v 3 i wq)) (fun iv _ => 301 - (RowKit.intOf iv).toNat)
        case atStart => exact ⟨0, rfl, by omega, HD⟩
        case round =>
          clear HD
          obtain ⟨i, rfl, hi, HD⟩ := hrel
          have HBW := hide (unhide HD).bel
          by_cases hB : i < len1
          · have hB' : (i : Int) < (len1 : Int) := by omega
            obtain ⟨sB, hxB⟩ : ∃ s, tt[i]? = some s := ⟨_, List.getElem?_eq_getElem (by rw [unhide HlnB]; omega)⟩
            obtain ⟨gB, offB, rfl, hgB, hcwB⟩ := rs_at (unhide HrB) hxB
            have hcB := fun q v h => cell_below (hcwB q v h) (unhide HBW)
            have hstB := unhide HstB sB (List.mem_of_getElem? hxB)
            have hsmB := unhide HsmB sB (List.mem_of_getElem? hxB)
            obtain ⟨adB, cdB, hvdB⟩ := hstB.d
            obtain ⟨agB, cgB, hvgB⟩ := hstB.g
            have q0B := hcB 0 _ rfl
            have q1B := hcB 1 _ rfl
            have q2B := hcB 2 _ rfl
            have q3B := hcB 3 _ rfl
            have q4B := hcB 4 _ rfl
            have q5B := hcB 5 _ rfl
            have q6B := hcB 6 _ rfl
            have q7B := hcB 7 _ rfl
            have q8B := hcB 8 _ rfl
            have q9B := hcB 9 _ rfl
            have q10B := hcB 10 _ rfl
            have q11B := hcB 11 _ rfl
            have q12B := hcB 12 _ rfl
            rw [hvdB] at q2B
            rw [hvgB] at q9B
            simp only [Nat.add_zero] at q0B
            have HDo := hide ((unhide HD).does (by omega) (by decide) sB adB agB cdB cgB hstB hvdB hvgB hsmB.1 hsmB.2.1 hsmB.2.2)
            clear hxB hcwB hcB hstB hsmB hvdB hvgB
            by_cases hA : i < len0
            · have hA' : (i : Int) < (len0 : Int) := by omega
              go_wp2_with fail
              refine (unhide HDo).mono ?_
              rintro e X ⟨rfl, hd2⟩
              have HD2 := hide hd2
              clear HDo hd2 HD HBW q0B q1B q2B q3B q4B q5B q6B q7B q8B q9B q10B q11B q12B
              go_wp2
              go_roundw
              case rel => exact ⟨i + 1, by go_num, by omega, HD2⟩
              case measure => show 301 - ((i : Int) + 1).toNat < 301 - ((i : Nat) : Int).toNat; omega
            · have hA' : ¬ (i : Int) < (len0 : Int) := by omega
              go_wp2_with fail
              refine (unhide HDo).mono ?_
              rintro e X ⟨rfl, hd2⟩
              have HD2 := hide hd2
              clear HDo hd2 HD HBW q0B q1B q2B q3B q4B q5B q6B q7B q8B q9B q10B q11B q12B
              go_wp2
              go_roundw
              case rel => exact ⟨i + 1, by go_num, by omega, HD2⟩
              case measure => show 301 - ((i : Int) + 1).toNat < 301 - ((i : Nat) : Int).toNat; omega
          · have hB' : ¬ (i : Int) < (len1 : Int) := by omega
            by_cases hA : i < len0
            · have hA' : (i : Int) < (len0 : Int) := by omega
              go_wp2
              go_roundw
              case rel => exact ⟨i + 1, by go_num, by omega, hide (by obtain ⟨S, h⟩ := unhide HD; exact ⟨S, h.more (by omega)⟩)⟩
              case measure => show 301 - ((i : Int) + 1).toNat < 301 - ((i : Nat) : Int).toNat; omega
            · have hA' : ¬ (i : Int) < (len0 : Int) := by omega
              go_wp2_with fail
              refine (unhide HK _).mono ?_
              rintro r W2 ⟨rfl, hb2⟩
              go_wp2
              go_ret
              exact ⟨rfl, bnext (unhide HBW) hb2⟩

theorem own : ownKnob Tryz.prog.godebug = none := by kernel_rfl
theorem laidOut2 : laidOutB Tryz.prog = true := by kernel_rfl

set_option maxRecDepth 100000 in
theorem lifted (os : Os) (started : os.Started) (H : Type) (enc : TypeId × Value → H) :
    ReturnsInHanded {} Tryz.checked os 4 .any (Rows.causalTwoSpec.pre6 enc Tryz.prog Tryz.f4 Rows.causalTwoRow.domain false) (Rows.causalTwoSpec.post enc Tryz.prog Tryz.f4 false true false false) := by
  refine returnsInHanded_of_change (C := Tryz.checked) own started (by kernel_rfl) Tryz.func4
    (ChangeSpec.witness6 (enc := enc) (C := Tryz.checked) false ⟨#[], #[.int .i64 0, .slice none 0 0, .slice none 0 0], []⟩ 8 (by kernel_rfl) (by kernel_rfl) (by kernel_rfl) (by kernel_rfl)) ?_
  intro W base args ds gs before hval0 hW hcnd _
  have hval : ∀ (j : Nat) t v, Tryz.f4.params[j]? = some t → args[j]? = some v → Value.okWide Tryz.prog W .any base t v := hval0
  have hW' := hW
  obtain ⟨p, q, hA0, hV, rfl, hfz, hnd⟩ := hW
  have hA : DataW.TrodAll enc Tryz.prog W 0 (fun _ => true) true Tryz.f4.params.toList args.toList ds p := hA0
  rw [Tryz.params4] at hA hval
  obtain ⟨v0, vs0, d0, ds0, p0, q0, hargs, rfl, rfl, h0, r0⟩ := trodAll_cons hA
  obtain ⟨v1, vs1, d1, ds1, p1, q1, rfl, rfl, rfl, h1, r1⟩ := trodAll_cons r0
  obtain ⟨v2, vs2, d2, ds2, p2, q2, rfl, rfl, rfl, h2, r2⟩ := trodAll_cons r1
  obtain ⟨rfl, rfl, rfl⟩ := trodAll_nil r2
  obtain rfl : args = #[v0, v1, v2] := by cases args; simp_all
  obtain ⟨rfl, rfl⟩ := trodVars_none hV
  obtain ⟨a0, rfl, rfl, rfl, w0⟩ := open_int Tryz.underlying3 (hval 0 3 v0 rfl rfl) h0
  obtain ⟨a1, len1, cap1, rfl⟩ := okWide_slice Tryz.underlying24 (hval 1 24 v1 rfl rfl)
  have k1 := h1
  have lt1 : ∀ x ∈ p1, x.block < W.heap.size := by obtain ⟨m, hm⟩ := k1; exact DataW.trod_lt m _ _ _ hm
  obtain ⟨z1, w1⟩ : ∃ l : List Stp, RC W (.slice a1 len1 cap1) l.length (flat encS l) ∧ l.length = len1 ∧ len1 ≤ maxLen ∧ ∀ e ∈ l, StW W e := by
    obtain ⟨fuel, hf⟩ := h1
    simp only [Value.cells] at hf
    exact open_steps hf
  obtain ⟨a2, len2, cap2, rfl⟩ := okWide_slice Tryz.underlying24 (hval 2 24 v2 rfl rfl)
  have k2 := h2
  have lt2 : ∀ x ∈ p2, x.block < W.heap.size := by obtain ⟨m, hm⟩ := k2; exact DataW.trod_lt m _ _ _ hm
  obtain ⟨z2, w2⟩ : ∃ l : List Stp, RC W (.slice a2 len2 cap2) l.length (flat encS l) ∧ l.length = len2 ∧ len2 ≤ maxLen ∧ ∀ e ∈ l, StW W e := by
    obtain ⟨fuel, hf⟩ := h2
    simp only [Value.cells] at hf
    exact open_steps hf
  clear hA0 hval0
  refine (walk a0 a1 len1 cap1 z1 a2 len2 cap2 z2 W w0 w1 w2).mono fun e W' ⟨he, bel⟩ => ?_
  subst he
  exact ⟨_, rfl, _, _, _, [], _, [], hW', trodAll_mk1 (shut_bool Tryz.underlying4 _), (trodAll_cons_mk (shut_int Tryz.underlying3 w0) (trodAll_cons_mk (Below.trod laidOut2 (by kernel_rfl) (of_decide_eq_true (by kernel_rfl)) k1 bel lt1) (trodAll_cons_mk (Below.trod laidOut2 (by kernel_rfl) (of_decide_eq_true (by kernel_rfl)) k2 bel lt2) trodAll_mk0))), rfl, bel.frame _, fun h => by cases h⟩

theorem over : Rows.causalTwoRow.holds Tryz.pinned (OpenSpec.ofChange Rows.causalTwoSpec) :=
  OpenClaim.holds_of_wide 4 Tryz.f4 rfl rfl rfl rfl rfl rfl rfl ⟨rfl, rfl, rfl, rfl, rfl⟩ rfl rfl rfl rfl rfl (by kernel_rfl) Tryz.func4 (by kernel_rfl)
    (of_decide_eq_true (by kernel_rfl)) (by unfold Func.isWrapper; first | (rw [if_pos (by decide +kernel)]; kernel_rfl) | (rw [if_neg (by decide +kernel)]; exact ⟨rfl, rfl⟩))
    (fun os started H enc _ => lifted os started H enc)

end LCausalTwo

theorem causalTwo_holds : Rows.CausalTwoSaid := LCausalTwo.over

end Go.Proofs.YtkkolefionbbcaaGreat
