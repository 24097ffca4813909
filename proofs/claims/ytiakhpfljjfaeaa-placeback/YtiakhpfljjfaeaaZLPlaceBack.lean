/-
  Chapter 3's law PlaceBack returns true for every text, and leaves its argument as it was; no condition.
-/
import Derived.Test.YtiakhpfljjfaeaaRows
import Derived.WalkKit
import Derived.ProofKit
import Derived.OpenShut
import Derived.ShutString
import Derived.ChangeOld
import Derived.Below
import Derived.Test.YtiakhpfljjfaeaaZKn3
import Derived.Test.YtiakhpfljjfaeaaZPlB
import Derived.Deep.CutRange
import Derived.Test.YtiakhpfljjfaeaaZRegQ
set_option linter.unusedVariables false
set_option linter.unusedSimpArgs false
namespace Go.Proofs.Ytiakhpfljjfaeaa
namespace LPlaceBack
open Go.ChangeShapes Go.WideShapes Go.ChangeAt Go.RowKit Go.Lib
open Go.ChangeMaps (open_string shut_string)

set_option maxRecDepth 100000 in
set_option maxHeartbeats 400000000 in
theorem walk (a0 : ByteArray) (w0 : a0.size ≤ maxLen) (w : World) :
    Calls Try.prog 6 #[.string a0] w fun e w' => e = .returned (.bool true) ∧ Below w.heap.size w w' := by
  unfold maxLen at w0
  have hkn := fun W => hide (known_in W)
  by_cases hbig : 300 < a0.size
  · go_enter Try.func6, Try.ntmps6
    go_wp2_with (go_at_call 7; refine (unhide (hkn _)).mono ?_; rintro e w' ⟨rfl, hB⟩)
    go_ret
    exact ⟨rfl, hB⟩
  · have hs : a0.size ≤ 1000000 := by omega
    have hnew := fun W => hide (new_in a0 hs W)
    have hlns := fun p W hm => hide (lines_in a0 p W hs hm)
    have hline := fun p n W hm => hide (line_in a0 p n W hs hm)
    have hlen := fun p u hu W hm => hide (len_known a0 p u W hs hm hu)
    have hat := fun p u n W hm => hide (at_in a0 p u n W hs hm)
    have hce := fun p l c W hm => hide (cell_in a0 p l c W hs hm)
    have hcnt := fun W => hide (count_in a0 (by omega) W)
    have hL1 := (pL_le a0 (pN a0))
    have hN := pN_le a0
    have hlv : ∀ i : Nat, 1 ≤ i → i ≤ pL a0 (pN a0) → lineV a0 (i : Nat) = .tuple #[.string (a0.extract (lineB a0 (i : Nat)) (lineB a0 ((i : Nat) + 1))), .int .i64 0] := fun i h1 h2 => by
      unfold lineV; rw [if_neg (by omega)]
    have hjoin : ∀ i : Nat, a0.extract 0 (lineB a0 (i : Nat)) ++ a0.extract (lineB a0 (i : Nat)) (lineB a0 ((i : Nat) + 1)) = a0.extract 0 (lineB a0 ((i : Nat) + 1)) := fun i => ext_join a0 (lineB_mono (by omega)) (lineB_le a0 _)
    have hlast : a0.extract 0 (lineB a0 ((pL a0 (pN a0) : Nat) + 1)) = a0 := by rw [lineB_last, ext_all]
    have hfirst : a0.extract 0 (lineB a0 (1 : Nat)) = ⟨#[]⟩ := by
      rw [show ((1 : Nat) : Int) = 1 from rfl, lineB_one]
      apply ByteArray.ext
      simp
    have Hlv := hide hlv
    have Hjoin := hide hjoin
    have Hlast := hide hlast
    have Hfirst := hide hfirst
    have q1 : pQ a0 1 (pN a0) = a0.size := pB_end a0
    have q2 : pQ a0 2 (pN a0) = pN a0 := rfl
    have q3 : pQ a0 3 (pN a0) = pU a0 (pN a0) := rfl
    have q4 : pQ a0 4 (pN a0) = pC a0 (pN a0) := rfl
    have hsz : ∀ i : Nat, (a0.extract 0 (lineB a0 (i : Nat))).size ≤ a0.size := fun i => by rw [size_ext a0 _ _ (lineB_le a0 _)]; have := lineB_le a0 (i : Nat); omega
    have Hsz := hide hsz
    obtain ⟨M, hM⟩ : ∃ M, pL a0 (pN a0) = M := ⟨_, rfl⟩
    rw [hM] at hlns hL1
    have HM := hide hM
    clear hlv hjoin hlast hfirst hsz hM
    go_enter Try.func6, Try.ntmps6
    go_wp2_with fail
    refine (unhide (hnew _)).mono ?_
    rintro e W1 ⟨p, rfl, mp, b1⟩
    go_wp2_with fail
    go_loopw [4, 5] (fun av iv wr => ∃ i : Nat, 1 ≤ i ∧ i ≤ M + 1 ∧ iv = .int .i64 (i : Nat) ∧ av = .string (a0.extract 0 (lineB a0 (i : Nat))) ∧ Below W1.heap.size W1 wr) (fun _ iv _ => M + 1 - (RowKit.intOf iv).toNat)
    case atStart => exact ⟨1, by omega, by omega, rfl, by rw [unhide Hfirst], Below.refl _ _⟩
    case round =>
      obtain ⟨i, hi1, hiM, rfl, rfl, hB⟩ := hrel
      by_cases him : i ≤ M
      · have j1 : (i : Int) ≤ (M : Int) := by omega
        have hln := hide (unhide (hlns p wr (mp.below hB)))
        have hlx := fun W (h : Below wr.heap.size wr W) => hide (unhide (hline p (i : Nat) W (mp.below (bnext hB h))))
        rw [unhide Hlv i hi1 (by rw [unhide HM]; exact him)] at hlx
        have hjn := unhide Hjoin i
        have hz1 := unhide Hsz i
        have hz2 := unhide Hsz (i + 1)
        rw [show ((i + 1 : Nat) : Int) = (i : Int) + 1 by simp, ← hjn] at hz2
        obtain ⟨T1, hT1⟩ : ∃ T1, a0.extract 0 (lineB a0 (i : Nat)) = T1 := ⟨_, rfl⟩
        obtain ⟨T2, hT2⟩ : ∃ T2, a0.extract (lineB a0 (i : Nat)) (lineB a0 ((i : Nat) + 1)) = T2 := ⟨_, rfl⟩
        rw [hT1] at hz1 hz2 hjn ⊢
        rw [hT2] at hz2 hjn hlx
        have Hjn := hide hjn
        clear hjn hT1 hT2
        rw [ByteArray.size_append] at hz2
        go_wp2_with (first | (go_at_call 16; refine (unhide hln).mono ?_; rintro e W2 ⟨rfl, h2⟩) | (go_at_call 15; refine (unhide (hlx _ h2)).mono ?_; rintro e W3 ⟨rfl, h3⟩))
        go_roundw
        case rel => exact ⟨i + 1, by omega, by omega, by go_num, by rw [show ((i + 1 : Nat) : Int) = (i : Int) + 1 by simp, ← unhide Hjn], bnext (bnext hB h2) h3⟩
        case measure => simp [RowKit.intOf]; omega
      · have hie : i = M + 1 := by omega
        have j1 : ¬ (i : Int) ≤ (M : Int) := by omega
        have hall : a0.extract 0 (lineB a0 (i : Nat)) = a0 := by
          have := unhide Hlast
          rw [unhide HM] at this
          rw [hie, show ((M + 1 : Nat) : Int) = (M : Int) + 1 by simp]
          exact this
        rw [hall]
        have hln := hide (unhide (hlns p wr (mp.below hB)))
        clear hall hie
        go_wp2_with (go_at_call 16; refine (unhide hln).mono ?_; rintro e W2 ⟨rfl, h2⟩)
        have hB2 := bnext hB h2
        clear hB h2 hln him hiM hi1 j1
        have l1 := hide (unhide (hlen p 1 (by omega) W2 (mp.below hB2)))
        rw [q1] at l1
        refine (unhide l1).mono ?_
        rintro e W3 ⟨rfl, h3⟩
        have hB3 := bnext hB2 h3
        have l2 := hide (unhide (hlen p 2 (by omega) W3 (mp.below hB3)))
        rw [q2] at l2
        go_wp2_with fail
        refine (unhide l2).mono ?_
        rintro e W4 ⟨rfl, h4⟩
        have hB4 := bnext hB3 h4
        have l3 := hide (unhide (hlen p 3 (by omega) W4 (mp.below hB4)))
        rw [q3] at l3
        go_wp2_with fail
        refine (unhide l3).mono ?_
        rintro e W5 ⟨rfl, h5⟩
        have hB5 := bnext hB4 h5
        have l4 := hide (unhide (hlen p 4 (by omega) W5 (mp.below hB5)))
        rw [q4] at l4
        go_wp2_with fail
        refine (unhide l4).mono ?_
        rintro e W6 ⟨rfl, h6⟩
        have hB6 := bnext hB5 h6
        have hcn := hide (unhide (hcnt W6))
        rw [show (allL a0).length = pN a0 from rfl] at hcn
        have g1 : pC a0 (pN a0) ≤ pN a0 := pC_le a0 _
        have g2 : pN a0 ≤ pU a0 (pN a0) := pU_ge a0 _
        have g3 : pU a0 (pN a0) ≤ a0.size := by have := pU_le1 a0 (pN a0) (Nat.le_refl _); rw [pB_end] at this; exact this
        obtain ⟨CC, hCC⟩ : ∃ CC, pC a0 (pN a0) = CC := ⟨_, rfl⟩
        obtain ⟨UU, hUU⟩ : ∃ UU, pU a0 (pN a0) = UU := ⟨_, rfl⟩
        have HCC := hide hCC
        have HUU := hide hUU
        rw [hCC] at g1 ⊢
        rw [hUU] at g2 g3 ⊢
        obtain ⟨NN, hNN⟩ : ∃ NN, pN a0 = NN := ⟨_, rfl⟩
        rw [hNN] at g1 g2 hN hcn ⊢
        have HNN := hide hNN
        have o1 : ¬ (NN : Int) < (CC : Int) := by omega
        have o2 : ¬ (UU : Int) < (NN : Int) := by omega
        have o3 : ¬ (a0.size : Int) < (UU : Int) := by omega
        clear hCC hUU hNN q1 q2 q3 q4 l1 l2 l3 l4 h3 h4 h5 h6 hB2 hB3 hB4 hB5 hcnt hlen hline Hlv Hjoin Hlast Hfirst Hsz hnew
        go_wp2_with (go_at_call 17; refine (unhide hcn).mono ?_; rintro e W7 ⟨rfl, h7⟩)
        have hB7 := bnext hB6 h7
        have kl := Box6.new W7 (.int .i64 0) (.int .i64 0) (.int .i64 0) (.int .i64 0) (.int .i64 0) (.int .i64 0)
        have h7a := (Below.refl _ W7).alloc (Nat.le_refl _) (.cells #[.int .i64 0, .int .i64 0, .int .i64 0, .int .i64 0, .int .i64 0, .int .i64 0] 29)
        replace hB7 := bnext hB7 h7a
        have hxl : W1.heap.size ≤ W7.heap.size := (bnext hB6 h7).size
        generalize W7.heap.size = xl at kl hxl ⊢
        generalize W7.alloc (.cells #[.int .i64 0, .int .i64 0, .int .i64 0, .int .i64 0, .int .i64 0, .int .i64 0] 29) = X7 at kl hB7 ⊢
        clear hB6 h7 h7a hcn o1 o2 o3
        generalize ((i : Nat) : Int) = iz
        have e1 : decide (NN < CC) = false := decide_eq_false (by omega)
        have e2 : decide (UU < NN) = false := decide_eq_false (by omega)
        have e3 : decide (a0.size < UU) = false := decide_eq_false (by omega)
        simp only [e1, e2, e3, Bool.or_false, Bool.false_or]
        clear e1 e2 e3
        go_loopw [17] (fun iv wr => ∃ i : Nat, i ≤ NN + 1 ∧ iv = .int .i64 (i : Nat) ∧ (∃ m0 m1 m2 m3 m4 m5 : Nat, Box6 wr xl (.int .i64 (m0 : Nat)) (.int .i64 (m1 : Nat)) (.int .i64 (m2 : Nat)) (.int .i64 (m3 : Nat)) (.int .i64 (m4 : Nat)) (.int .i64 (m5 : Nat)) ∧ Hid (∀ j, i = j + 1 → m0 = pB a0 j ∧ m2 = pU a0 j ∧ m3 = pC a0 j ∧ m4 = pL a0 j ∧ m5 = pK a0 j)) ∧ Below W1.heap.size W1 wr) (fun iv _ => NN + 1 - (RowKit.intOf iv).toNat)
        case atStart => exact ⟨0, by omega, rfl, ⟨0, 0, 0, 0, 0, 0, kl, hide (fun j h => by omega)⟩, hB7⟩
        case round =>
          obtain ⟨i, hi, rfl, ⟨m0, m1, m2, m3, m4, m5, km, hmm⟩, hB⟩ := hrel
          clear kl hB7
          by_cases hin : i ≤ NN
          · have hip : i ≤ pN a0 := by rw [unhide HNN]; exact hin
            have j1 : (i : Int) ≤ (NN : Int) := by omega
            obtain ⟨n4, hk4, hc4, hc5, hc6⟩ := at_clump hip
            have A1 := fun W (h : Below W1.heap.size W1 W) => hide (unhide (hat p 2 (i : Nat) W (mp.below h)))
            have A2 := fun W (h : Below W1.heap.size W1 W) => hide (unhide (hat p 1 (pB a0 i : Nat) W (mp.below h)))
            have A3 := fun W (h : Below W1.heap.size W1 W) => hide (unhide (hat p 3 (pU a0 i : Nat) W (mp.below h)))
            have A4 := fun W (h : Below W1.heap.size W1 W) => hide (unhide (hat p 4 (pC a0 i : Nat) W (mp.below h)))
            have A5 := fun W (h : Below W1.heap.size W1 W) => hide (unhide (hce p (pL a0 i : Nat) (pK a0 i : Nat) W (mp.below h)))
            rw [at_rune hip] at A1
            rw [at_byte hip] at A2
            rw [at_unit hip] at A3
            rw [hc4] at A4
            rw [cell_place hip, show zeroV = .agg #[.int .i64 0, .int .i64 0, .int .i64 0, .int .i64 0, .int .i64 0, .int .i64 0] from rfl] at A5
            rw [show spN a0 i = .agg #[.int .i64 (pB a0 i : Nat), .int .i64 (i : Nat), .int .i64 (pU a0 i : Nat), .int .i64 (pC a0 i : Nat), .int .i64 (pL a0 i : Nat), .int .i64 (pK a0 i : Nat)] from rfl] at A1 A2 A3 A5
            rw [show spN a0 n4 = .agg #[.int .i64 (pB a0 n4 : Nat), .int .i64 (n4 : Nat), .int .i64 (pU a0 n4 : Nat), .int .i64 (pC a0 n4 : Nat), .int .i64 (pL a0 n4 : Nat), .int .i64 (pK a0 n4 : Nat)] from rfl, hc5] at A4
            have hstep : i = 0 ∨ (0 < i ∧ m0 < pB a0 i ∧ m2 < pU a0 i ∧ m3 ≤ pC a0 i ∧ ((pL a0 i = m4 ∧ pK a0 i = m5 + 1) ∨ (pL a0 i = m4 + 1 ∧ pK a0 i = 1))) := by
              by_cases h0 : i = 0
              · exact .inl h0
              · obtain ⟨j, h⟩ : ∃ j, i = j + 1 := ⟨i - 1, by omega⟩
                obtain ⟨e0, e2, e3, e4, e5⟩ := unhide hmm j h
                subst h
                have s1 := pB_succ (s := a0) (n := j) (by omega)
                have s2 := pU_succ a0 j
                have s3 := pQ_succ a0 4 (n := j) (by omega)
                change pC a0 j ≤ pC a0 (j + 1) at s3
                refine .inr ⟨by omega, by omega, by omega, by omega, ?_⟩
                rcases lk_step a0 j with ⟨_, s4, s5⟩ | ⟨_, s4, s5⟩
                · exact .inl ⟨by omega, by omega⟩
                · exact .inr ⟨by omega, by omega⟩
            have hPI : pI a0 (pB a0 i) = (decide (0 < pB a0 i) && by_ a0 (pB a0 i - 1) == 13 && (decide (pB a0 i < a0.size) && by_ a0 (pB a0 i) == 10)) := rfl
            have hmn : Hid (∀ j, i + 1 = j + 1 → pB a0 i = pB a0 j ∧ pU a0 i = pU a0 j ∧ pC a0 i = pC a0 j ∧ pL a0 i = pL a0 j ∧ pK a0 i = pK a0 j) := hide (fun j h => by
              obtain rfl : i = j := by omega
              exact ⟨rfl, rfl, rfl, rfl, rfl⟩)
            have hBle := pB_le a0 i hip
            have hLK := pL_le a0 i
            have hKK := pK_le a0 i
            obtain ⟨PI, hPId⟩ : ∃ PI, pI a0 (pB a0 i) = PI := ⟨_, rfl⟩
            rw [hPId] at hPI A5
            obtain ⟨B, hBq⟩ : ∃ B, pB a0 i = B := ⟨_, rfl⟩
            obtain ⟨U, hUq⟩ : ∃ U, pU a0 i = U := ⟨_, rfl⟩
            obtain ⟨C, hCq⟩ : ∃ C, pC a0 i = C := ⟨_, rfl⟩
            obtain ⟨L, hLq⟩ : ∃ L, pL a0 i = L := ⟨_, rfl⟩
            obtain ⟨K, hKq⟩ : ∃ K, pK a0 i = K := ⟨_, rfl⟩
            rw [hBq] at A1 A2 A3 A5 hstep hPI hmn hBle hc6
            rw [hUq] at A1 A2 A3 A5 hstep hmn
            rw [hCq] at A1 A2 A3 A4 A5 hstep hmn
            rw [hLq] at A1 A2 A3 A5 hstep hmn hLK
            rw [hKq] at A1 A2 A3 A5 hstep hmn hKK
            generalize pB a0 n4 = B4 at A4 hc6
            generalize pU a0 n4 = U4 at A4
            generalize pL a0 n4 = L4 at A4
            generalize pK a0 n4 = K4 at A4
            have HPI := hide hPI
            have Hstep := hide hstep
            have hc7 : ¬ (B : Int) < (B4 : Int) := by omega
            have hL6 : L ≤ 1000000 := by omega
            have hK6 : K ≤ 1000000 := by omega
            clear hPI hPId hBq hUq hCq hLq hKq hc4 hc5 hmm hip hstep hk4 hLK hKK
            go_wp2_with fail
            refine (unhide (A1 _ hB)).mono ?_
            rintro e Wa ⟨rfl, ha⟩
            have k1 := Box6.new Wa (.int .i64 (B : Nat)) (.int .i64 (i : Nat)) (.int .i64 (U : Nat)) (.int .i64 (C : Nat)) (.int .i64 (L : Nat)) (.int .i64 (K : Nat))
            have h1a := (Below.refl _ Wa).alloc (Nat.le_refl _) (.cells #[.int .i64 (B : Nat), .int .i64 (i : Nat), .int .i64 (U : Nat), .int .i64 (C : Nat), .int .i64 (L : Nat), .int .i64 (K : Nat)] 29)
            have d1 := bnext (bnext hB ha) h1a
            replace km := (km.below ha).below h1a
            obtain ⟨X1, hX1⟩ : ∃ X, Wa.alloc (.cells #[.int .i64 (B : Nat), .int .i64 (i : Nat), .int .i64 (U : Nat), .int .i64 (C : Nat), .int .i64 (L : Nat), .int .i64 (K : Nat)] 29) = X := ⟨_, rfl⟩
            rw [hX1] at d1 km k1
            obtain ⟨x1, hx1⟩ : ∃ x, Wa.heap.size = x := ⟨_, rfl⟩
            rw [hx1] at k1
            obtain ⟨p0, p1, p2, p3, p4, p5, _⟩ := k1.facts
            go_wp2_with fail
            clear p0 p1 p2 p3 p4 p5 hX1 hx1
            refine (unhide (A2 _ d1)).mono ?_
            rintro e Wb ⟨rfl, hb⟩
            have k2 := Box6.new Wb (.int .i64 (B : Nat)) (.int .i64 (i : Nat)) (.int .i64 (U : Nat)) (.int .i64 (C : Nat)) (.int .i64 (L : Nat)) (.int .i64 (K : Nat))
            have h2a := (Below.refl _ Wb).alloc (Nat.le_refl _) (.cells #[.int .i64 (B : Nat), .int .i64 (i : Nat), .int .i64 (U : Nat), .int .i64 (C : Nat), .int .i64 (L : Nat), .int .i64 (K : Nat)] 29)
            have d2 := bnext (bnext d1 hb) h2a
            replace km := (km.below hb).below h2a
            replace k1 := (k1.below hb).below h2a
            obtain ⟨X2, hX2⟩ : ∃ X, Wb.alloc (.cells #[.int .i64 (B : Nat), .int .i64 (i : Nat), .int .i64 (U : Nat), .int .i64 (C : Nat), .int .i64 (L : Nat), .int .i64 (K : Nat)] 29) = X := ⟨_, rfl⟩
            rw [hX2] at d2 km k1 k2
            obtain ⟨x2, hx2⟩ : ∃ x, Wb.heap.size = x := ⟨_, rfl⟩
            rw [hx2] at k2
            obtain ⟨p0, p1, p2, p3, p4, p5, _⟩ := k1.facts
            go_wp2_with fail
            clear p0 p1 p2 p3 p4 p5 hX2 hx2
            refine (unhide (A3 _ d2)).mono ?_
            rintro e Wc ⟨rfl, hc⟩
            have k3 := Box6.new Wc (.int .i64 (B : Nat)) (.int .i64 (i : Nat)) (.int .i64 (U : Nat)) (.int .i64 (C : Nat)) (.int .i64 (L : Nat)) (.int .i64 (K : Nat))
            have h3a := (Below.refl _ Wc).alloc (Nat.le_refl _) (.cells #[.int .i64 (B : Nat), .int .i64 (i : Nat), .int .i64 (U : Nat), .int .i64 (C : Nat), .int .i64 (L : Nat), .int .i64 (K : Nat)] 29)
            have d3 := bnext (bnext d2 hc) h3a
            replace km := (km.below hc).below h3a
            replace k1 := (k1.below hc).below h3a
            replace k2 := (k2.below hc).below h3a
            obtain ⟨X3, hX3⟩ : ∃ X, Wc.alloc (.cells #[.int .i64 (B : Nat), .int .i64 (i : Nat), .int .i64 (U : Nat), .int .i64 (C : Nat), .int .i64 (L : Nat), .int .i64 (K : Nat)] 29) = X := ⟨_, rfl⟩
            rw [hX3] at d3 km k1 k2 k3
            obtain ⟨x3, hx3⟩ : ∃ x, Wc.heap.size = x := ⟨_, rfl⟩
            rw [hx3] at k3
            obtain ⟨p0, p1, p2, p3, p4, p5, _⟩ := k1.facts
            go_wp2_with fail
            clear p0 p1 p2 p3 p4 p5 hX3 hx3
            refine (unhide (A4 _ d3)).mono ?_
            rintro e Wd ⟨rfl, hd⟩
            have k4 := Box6.new Wd (.int .i64 (B4 : Nat)) (.int .i64 (n4 : Nat)) (.int .i64 (U4 : Nat)) (.int .i64 (C : Nat)) (.int .i64 (L4 : Nat)) (.int .i64 (K4 : Nat))
            have h4a := (Below.refl _ Wd).alloc (Nat.le_refl _) (.cells #[.int .i64 (B4 : Nat), .int .i64 (n4 : Nat), .int .i64 (U4 : Nat), .int .i64 (C : Nat), .int .i64 (L4 : Nat), .int .i64 (K4 : Nat)] 29)
            have d4 := bnext (bnext d3 hd) h4a
            replace km := (km.below hd).below h4a
            replace k1 := (k1.below hd).below h4a
            replace k2 := (k2.below hd).below h4a
            replace k3 := (k3.below hd).below h4a
            obtain ⟨X4, hX4⟩ : ∃ X, Wd.alloc (.cells #[.int .i64 (B4 : Nat), .int .i64 (n4 : Nat), .int .i64 (U4 : Nat), .int .i64 (C : Nat), .int .i64 (L4 : Nat), .int .i64 (K4 : Nat)] 29) = X := ⟨_, rfl⟩
            rw [hX4] at d4 km k1 k2 k3 k4
            obtain ⟨x4, hx4⟩ : ∃ x, Wd.heap.size = x := ⟨_, rfl⟩
            rw [hx4] at k4
            obtain ⟨p0, p1, p2, p3, p4, p5, _⟩ := k1.facts
            obtain ⟨q0, q1, q2, q3, q4, q5, _⟩ := k2.facts
            obtain ⟨r0, r1, r2, r3, r4, r5, _⟩ := k3.facts
            obtain ⟨t0, t1, t2, t3, t4, t5, _⟩ := k4.facts
            obtain ⟨y0, y1, y2, y3, y4, y5, _⟩ := km.facts
            have z1 : decide ((B : Int) < (B4 : Int)) = false := decide_eq_false (by omega)
            have z2 : decide (B < B4) = false := decide_eq_false (by omega)
            have hbI : (B : Int) ≤ (a0.size : Int) := by omega
            clear hc7 ha hb hc hd h1a h2a h3a h4a A1 A2 A3 A4 d1 d2 d3 hB
            go_upto_region 28 with fail
            clear hX4 hx4
            go_cut [179] from 104 to 297 (fun v wx => v = .bool false ∧ wx = X4)
            case first =>
              clear y0 y1 y2 y3 y4 y5 km HPI Hstep A5 hmn d4
              as_aux_lemma =>
                go_wp2
                go_meet
                case rel => exact ⟨rfl, rfl⟩
            case rest =>
              obtain ⟨rfl, hwc⟩ := hcut
              subst hwc
              clear q0 q1 q2 q3 q4 q5 r0 r1 r2 r3 r4 r5 t0 t1 t2 t3 t4 t5 k2 k3 k4 z1 z2
              go_upto_region 30 with fail
              go_cut [244] from 104 to 297 (fun v wx => v = .bool false ∧ wx = wc)
              case first =>
                clear HPI A5 hmn d4
                rcases unhide Hstep with hi0 | ⟨hip0, hs0, hs2, hs3, ⟨hs4, hs5⟩ | ⟨hs4, hs5⟩⟩
                · have s0 : decide ((0 : Int) < (i : Int)) = false := decide_eq_false (by omega)
                  have s0' : decide (0 < i) = false := decide_eq_false (by omega)
                  clear Hstep hi0
                  as_aux_lemma =>
                    refine region_seq 325 (fun j => 180 + j) ((0, (Value.string a0)) :: (1, undef) :: (2, u2) :: (3, (Value.pointer (some { block := p, off := 0 }))) :: (4, (Value.string a0)) :: (5, (Value.int IntKind.i64 iz)) :: (6, u6) :: (7, u7) :: (8, (Value.int IntKind.i64 ↑a0.size)) :: (9, (Value.int IntKind.i64 0)) :: (10, (Value.int IntKind.i64 ↑NN)) :: (11, (Value.int IntKind.i64 0)) :: (12, (Value.int IntKind.i64 ↑UU)) :: (13, (Value.int IntKind.i64 0)) :: (14, (Value.int IntKind.i64 ↑CC)) :: (15, (Value.int IntKind.i64 0)) :: (16, (Value.pointer (some { block := xl, off := 0 }))) :: (17, (Value.int IntKind.i64 ↑i)) :: (18, (Value.pointer (some { block := x1, off := 0 }))) :: (19, (Value.int IntKind.i64 0)) :: (20, (Value.pointer (some { block := x2, off := 0 }))) :: (21, (Value.int IntKind.i64 0)) :: (22, (Value.pointer (some { block := x3, off := 0 }))) :: (23, (Value.int IntKind.i64 0)) :: (24, (Value.pointer (some { block := x4, off := 0 }))) :: (25, (Value.int IntKind.i64 0)) :: (26, u26) :: (27, u27) :: (28, u28) :: (29, (Value.string a0)) :: (30, (Value.int IntKind.i64 ↑a0.size)) :: (31, (Value.bool (decide ((300 : Int) < ((a0.size : Nat) : Int))))) :: (32, undef) :: (33, (Value.string a0)) :: (34, (Value.pointer (some { block := p, off := 0 }))) :: (35, (Value.pointer (some { block := p, off := 0 }))) :: (36, (Value.bool false)) :: (37, (Value.int IntKind.i64 iz)) :: (38, (Value.pointer (some { block := p, off := 0 }))) :: (39, (Value.int IntKind.i64 ↑M)) :: (40, (Value.bool false)) :: (41, u41) :: (42, u42) :: (43, u43) :: (44, u44) :: (45, u45) :: (46, u46) :: (47, u47) :: (48, u48) :: (49, u49) :: (50, u50) :: (51, u51) :: (52, u52) :: (53, u53) :: (54, (Value.tuple #[Value.int IntKind.i64 ↑a0.size, Value.int IntKind.i64 0])) :: (55, (Value.pointer (some { block := p, off := 0 }))) :: (56, (Value.tuple #[Value.int IntKind.i64 ↑a0.size, Value.int IntKind.i64 0])) :: (57, (Value.int IntKind.i64 ↑a0.size)) :: (58, (Value.int IntKind.i64 0)) :: (59, (Value.tuple #[Value.int IntKind.i64 ↑NN, Value.int IntKind.i64 0])) :: (60, (Value.pointer (some { block := p, off := 0 }))) :: (61, (Value.tuple #[Value.int IntKind.i64 ↑NN, Value.int IntKind.i64 0])) :: (62, (Value.int IntKind.i64 ↑NN)) :: (63, (Value.int IntKind.i64 0)) :: (64, (Value.tuple #[Value.int IntKind.i64 ↑UU, Value.int IntKind.i64 0])) :: (65, (Value.pointer (some { block := p, off := 0 }))) :: (66, (Value.tuple #[Value.int IntKind.i64 ↑UU, Value.int IntKind.i64 0])) :: (67, (Value.int IntKind.i64 ↑UU)) :: (68, (Value.int IntKind.i64 0)) :: (69, (Value.tuple #[Value.int IntKind.i64 ↑CC, Value.int IntKind.i64 0])) :: (70, (Value.pointer (some { block := p, off := 0 }))) :: (71, (Value.tuple #[Value.int IntKind.i64 ↑CC, Value.int IntKind.i64 0])) :: (72, (Value.int IntKind.i64 ↑CC)) :: (73, (Value.int IntKind.i64 0)) :: (74, (Value.string a0)) :: (75, (Value.string a0)) :: (76, (Value.bool false)) :: (77, (Value.bool false)) :: (78, (Value.int IntKind.i64 ↑a0.size)) :: (79, (Value.string a0)) :: (80, (Value.int IntKind.i64 ↑a0.size)) :: (81, (Value.bool false)) :: (82, (Value.bool false)) :: (83, (Value.bool false)) :: (84, (Value.int IntKind.i64 ↑NN)) :: (85, (Value.string a0)) :: (86, (Value.int IntKind.i64 ↑NN)) :: (87, (Value.bool false)) :: (88, (Value.bool false)) :: (89, (Value.bool false)) :: (90, (Value.int IntKind.i64 ↑CC)) :: (91, (Value.int IntKind.i64 ↑NN)) :: (92, (Value.bool false)) :: (93, (Value.bool false)) :: (94, (Value.bool false)) :: (95, (Value.int IntKind.i64 ↑NN)) :: (96, (Value.int IntKind.i64 ↑UU)) :: (97, (Value.bool false)) :: (98, (Value.bool false)) :: (99, (Value.bool false)) :: (100, (Value.int IntKind.i64 ↑UU)) :: (101, (Value.int IntKind.i64 ↑a0.size)) :: (102, (Value.bool false)) :: (103, (Value.bool false)) :: (104, u104) :: (105, u105) :: (106, u106) :: (107, u107) :: (108, u108) :: (109, u109) :: (110, u110) :: (111, u111) :: (112, u112) :: (113, u113) :: (114, u114) :: (115, u115) :: (116, u116) :: (117, u117) :: (118, u118) :: (119, u119) :: (120, u120) :: (121, u121) :: (122, u122) :: (123, u123) :: (124, u124) :: (125, u125) :: (126, u126) :: (127, u127) :: (128, u128) :: (129, u129) :: (130, u130) :: (131, u131) :: (132, u132) :: (133, u133) :: (134, u134) :: (135, u135) :: (136, u136) :: (137, u137) :: (138, u138) :: (139, u139) :: (140, u140) :: (141, u141) :: (142, u142) :: (143, u143) :: (144, u144) :: (145, u145) :: (146, u146) :: (147, u147) :: (148, u148) :: (149, u149) :: (150, u150) :: (151, u151) :: (152, u152) :: (153, u153) :: (154, u154) :: (155, u155) :: (156, u156) :: (157, u157) :: (158, u158) :: (159, u159) :: (160, u160) :: (161, u161) :: (162, u162) :: (163, u163) :: (164, u164) :: (165, u165) :: (166, u166) :: (167, u167) :: (168, u168) :: (169, u169) :: (170, u170) :: (171, u171) :: (172, u172) :: (173, u173) :: (174, u174) :: (175, u175) :: (176, u176) :: (177, u177) :: (178, u178) :: (179, (Value.bool false)) :: (245, u245) :: (246, u246) :: (247, u247) :: (248, u248) :: (249, u249) :: (250, u250) :: (251, u251) :: (252, u252) :: (253, u253) :: (254, u254) :: (255, u255) :: (256, u256) :: (257, u257) :: (258, u258) :: (259, u259) :: (260, u260) :: (261, u261) :: (262, u262) :: (263, u263) :: (264, u264) :: (265, u265) :: (266, u266) :: (267, u267) :: (268, u268) :: (269, u269) :: (270, u270) :: (271, u271) :: (272, u272) :: (273, u273) :: (274, u274) :: (275, u275) :: (276, u276) :: (277, u277) :: (278, u278) :: (279, u279) :: (280, u280) :: (281, u281) :: (282, u282) :: (283, u283) :: (284, u284) :: (285, u285) :: (286, u286) :: (287, u287) :: (288, u288) :: (289, u289) :: (290, u290) :: (291, u291) :: (292, u292) :: (293, u293) :: (294, u294) :: (295, u295) :: (296, u296) :: (297, u297) :: (298, undef) :: (299, undef) :: (300, undef) :: (301, undef) :: (302, undef) :: (303, undef) :: (304, undef) :: (305, undef) :: (306, undef) :: (307, undef) :: (308, undef) :: (309, undef) :: (310, undef) :: (311, undef) :: (312, undef) :: (313, undef) :: (314, undef) :: (315, undef) :: (316, undef) :: (317, undef) :: (318, undef) :: (319, undef) :: (320, undef) :: (321, undef) :: (322, undef) :: (323, undef) :: (324, undef) :: []) ((Value.int IntKind.i64 ↑i) :: (.bool false) :: (.bool false) :: undef :: undef :: undef :: undef :: undef :: undef :: undef :: undef :: undef :: undef :: undef :: undef :: undef :: undef :: undef :: undef :: undef :: undef :: undef :: undef :: undef :: undef :: undef :: undef :: undef :: undef :: undef :: undef :: undef :: undef :: undef :: undef :: undef :: undef :: undef :: undef :: undef :: undef :: undef :: undef :: undef :: undef :: undef :: undef :: undef :: undef :: undef :: undef :: undef :: undef :: undef :: undef :: undef :: undef :: undef :: undef :: undef :: undef :: undef :: undef :: undef :: (.bool false) :: []) wc ?fit ?steps ?fin _ ?sz rfl ?base
                    case fit => kernel_rfl
                    case sz => rfl
                    case base => exact base_all rfl
                    case steps =>
                      refine .cons (by
                        rw [if_pos (show wantV _ _ = true from rfl)]
                        intro ρ hρ hb hd
                        have d0 : ρ (.tmp 17) = (Value.int IntKind.i64 ↑i) := hb (17, _) (List.mem_of_getElem? (i := 17) rfl)
                        exact ⟨_, rfl, by simp [go_sem, execOp, d0, hρ.const, p0, p2, p3, p4, p5, y0, y2, y3, y4, y5, s0, s0']⟩) ?_
                      refine .cons (by
                        rw [if_pos (show wantV _ _ = true from rfl)]
                        intro ρ hρ hb hd
                        have d0 : ρ (.tmp 180) = (Value.int IntKind.i64 ↑i) := hd 0 _ (by decide) rfl
                        exact ⟨_, rfl, by simp [go_sem, execOp, d0, hρ.const, p0, p2, p3, p4, p5, y0, y2, y3, y4, y5, s0, s0']⟩) ?_
                      refine .cons (by
                        rw [if_pos (show wantV _ _ = true from rfl)]
                        intro ρ hρ hb hd
                        have d0 : ρ (.tmp 181) = (.bool false) := hd 1 _ (by decide) rfl
                        exact ⟨_, rfl, by simp [go_sem, execOp, d0, hρ.const, p0, p2, p3, p4, p5, y0, y2, y3, y4, y5, s0, s0']⟩) ?_
                      refine .cons (iteSkip rfl rfl) ?_
                      refine .cons (iteSkip rfl rfl) ?_
                      refine .cons (iteSkip rfl rfl) ?_
                      refine .cons (iteSkip rfl rfl) ?_
                      refine .cons (iteSkip rfl rfl) ?_
                      refine .cons (iteSkip rfl rfl) ?_
                      refine .cons (iteSkip rfl rfl) ?_
                      refine .cons (iteSkip rfl rfl) ?_
                      refine .cons (iteSkip rfl rfl) ?_
                      refine .cons (iteSkip rfl rfl) ?_
                      refine .cons (iteSkip rfl rfl) ?_
                      refine .cons (iteSkip rfl rfl) ?_
                      refine .cons (iteSkip rfl rfl) ?_
                      refine .cons (iteSkip rfl rfl) ?_
                      refine .cons (iteSkip rfl rfl) ?_
                      refine .cons (iteSkip rfl rfl) ?_
                      refine .cons (iteSkip rfl rfl) ?_
                      refine .cons (iteSkip rfl rfl) ?_
                      refine .cons (iteSkip rfl rfl) ?_
                      refine .cons (iteSkip rfl rfl) ?_
                      refine .cons (iteSkip rfl rfl) ?_
                      refine .cons (iteSkip rfl rfl) ?_
                      refine .cons (iteSkip rfl rfl) ?_
                      refine .cons (iteSkip rfl rfl) ?_
                      refine .cons (iteSkip rfl rfl) ?_
                      refine .cons (iteSkip rfl rfl) ?_
                      refine .cons (iteSkip rfl rfl) ?_
                      refine .cons (iteSkip rfl rfl) ?_
                      refine .cons (iteSkip rfl rfl) ?_
                      refine .cons (iteSkip rfl rfl) ?_
                      refine .cons (iteSkip rfl rfl) ?_
                      refine .cons (iteSkip rfl rfl) ?_
                      refine .cons (iteSkip rfl rfl) ?_
                      refine .cons (iteSkip rfl rfl) ?_
                      refine .cons (iteSkip rfl rfl) ?_
                      refine .cons (iteSkip rfl rfl) ?_
                      refine .cons (iteSkip rfl rfl) ?_
                      refine .cons (iteSkip rfl rfl) ?_
                      refine .cons (iteSkip rfl rfl) ?_
                      refine .cons (iteSkip rfl rfl) ?_
                      refine .cons (iteSkip rfl rfl) ?_
                      refine .cons (iteSkip rfl rfl) ?_
                      refine .cons (iteSkip rfl rfl) ?_
                      refine .cons (iteSkip rfl rfl) ?_
                      refine .cons (iteSkip rfl rfl) ?_
                      refine .cons (iteSkip rfl rfl) ?_
                      refine .cons (iteSkip rfl rfl) ?_
                      refine .cons (iteSkip rfl rfl) ?_
                      refine .cons (iteSkip rfl rfl) ?_
                      refine .cons (iteSkip rfl rfl) ?_
                      refine .cons (iteSkip rfl rfl) ?_
                      refine .cons (iteSkip rfl rfl) ?_
                      refine .cons (iteSkip rfl rfl) ?_
                      refine .cons (iteSkip rfl rfl) ?_
                      refine .cons (iteSkip rfl rfl) ?_
                      refine .cons (iteSkip rfl rfl) ?_
                      refine .cons (iteSkip rfl rfl) ?_
                      refine .cons (iteSkip rfl rfl) ?_
                      refine .cons (iteSkip rfl rfl) ?_
                      refine .cons (iteSkip rfl rfl) ?_
                      refine .cons (iteSkip rfl rfl) ?_
                      refine .cons (by
                        rw [if_pos (show wantV _ _ = true from rfl)]
                        intro ρ hρ hb hd
                        have d0 : ρ (.tmp 182) = (.bool false) := hd 2 _ (by decide) rfl
                        have d1 : ρ (.tmp 243) = undef := hd 63 _ (by decide) rfl
                        exact ⟨_, rfl, by simp [go_sem, execOp, d0, d1, hρ.const, p0, p2, p3, p4, p5, y0, y2, y3, y4, y5, s0, s0']⟩) (.nil _)
                    case fin =>
                      intro a hsz2 hds hb hv
                      obtain rfl := frame_of (((0, (Value.string a0)) :: (1, undef) :: (2, u2) :: (3, (Value.pointer (some { block := p, off := 0 }))) :: (4, (Value.string a0)) :: (5, (Value.int IntKind.i64 iz)) :: (6, u6) :: (7, u7) :: (8, (Value.int IntKind.i64 ↑a0.size)) :: (9, (Value.int IntKind.i64 0)) :: (10, (Value.int IntKind.i64 ↑NN)) :: (11, (Value.int IntKind.i64 0)) :: (12, (Value.int IntKind.i64 ↑UU)) :: (13, (Value.int IntKind.i64 0)) :: (14, (Value.int IntKind.i64 ↑CC)) :: (15, (Value.int IntKind.i64 0)) :: (16, (Value.pointer (some { block := xl, off := 0 }))) :: (17, (Value.int IntKind.i64 ↑i)) :: (18, (Value.pointer (some { block := x1, off := 0 }))) :: (19, (Value.int IntKind.i64 0)) :: (20, (Value.pointer (some { block := x2, off := 0 }))) :: (21, (Value.int IntKind.i64 0)) :: (22, (Value.pointer (some { block := x3, off := 0 }))) :: (23, (Value.int IntKind.i64 0)) :: (24, (Value.pointer (some { block := x4, off := 0 }))) :: (25, (Value.int IntKind.i64 0)) :: (26, u26) :: (27, u27) :: (28, u28) :: (29, (Value.string a0)) :: (30, (Value.int IntKind.i64 ↑a0.size)) :: (31, (Value.bool (decide ((300 : Int) < ((a0.size : Nat) : Int))))) :: (32, undef) :: (33, (Value.string a0)) :: (34, (Value.pointer (some { block := p, off := 0 }))) :: (35, (Value.pointer (some { block := p, off := 0 }))) :: (36, (Value.bool false)) :: (37, (Value.int IntKind.i64 iz)) :: (38, (Value.pointer (some { block := p, off := 0 }))) :: (39, (Value.int IntKind.i64 ↑M)) :: (40, (Value.bool false)) :: (41, u41) :: (42, u42) :: (43, u43) :: (44, u44) :: (45, u45) :: (46, u46) :: (47, u47) :: (48, u48) :: (49, u49) :: (50, u50) :: (51, u51) :: (52, u52) :: (53, u53) :: (54, (Value.tuple #[Value.int IntKind.i64 ↑a0.size, Value.int IntKind.i64 0])) :: (55, (Value.pointer (some { block := p, off := 0 }))) :: (56, (Value.tuple #[Value.int IntKind.i64 ↑a0.size, Value.int IntKind.i64 0])) :: (57, (Value.int IntKind.i64 ↑a0.size)) :: (58, (Value.int IntKind.i64 0)) :: (59, (Value.tuple #[Value.int IntKind.i64 ↑NN, Value.int IntKind.i64 0])) :: (60, (Value.pointer (some { block := p, off := 0 }))) :: (61, (Value.tuple #[Value.int IntKind.i64 ↑NN, Value.int IntKind.i64 0])) :: (62, (Value.int IntKind.i64 ↑NN)) :: (63, (Value.int IntKind.i64 0)) :: (64, (Value.tuple #[Value.int IntKind.i64 ↑UU, Value.int IntKind.i64 0])) :: (65, (Value.pointer (some { block := p, off := 0 }))) :: (66, (Value.tuple #[Value.int IntKind.i64 ↑UU, Value.int IntKind.i64 0])) :: (67, (Value.int IntKind.i64 ↑UU)) :: (68, (Value.int IntKind.i64 0)) :: (69, (Value.tuple #[Value.int IntKind.i64 ↑CC, Value.int IntKind.i64 0])) :: (70, (Value.pointer (some { block := p, off := 0 }))) :: (71, (Value.tuple #[Value.int IntKind.i64 ↑CC, Value.int IntKind.i64 0])) :: (72, (Value.int IntKind.i64 ↑CC)) :: (73, (Value.int IntKind.i64 0)) :: (74, (Value.string a0)) :: (75, (Value.string a0)) :: (76, (Value.bool false)) :: (77, (Value.bool false)) :: (78, (Value.int IntKind.i64 ↑a0.size)) :: (79, (Value.string a0)) :: (80, (Value.int IntKind.i64 ↑a0.size)) :: (81, (Value.bool false)) :: (82, (Value.bool false)) :: (83, (Value.bool false)) :: (84, (Value.int IntKind.i64 ↑NN)) :: (85, (Value.string a0)) :: (86, (Value.int IntKind.i64 ↑NN)) :: (87, (Value.bool false)) :: (88, (Value.bool false)) :: (89, (Value.bool false)) :: (90, (Value.int IntKind.i64 ↑CC)) :: (91, (Value.int IntKind.i64 ↑NN)) :: (92, (Value.bool false)) :: (93, (Value.bool false)) :: (94, (Value.bool false)) :: (95, (Value.int IntKind.i64 ↑NN)) :: (96, (Value.int IntKind.i64 ↑UU)) :: (97, (Value.bool false)) :: (98, (Value.bool false)) :: (99, (Value.bool false)) :: (100, (Value.int IntKind.i64 ↑UU)) :: (101, (Value.int IntKind.i64 ↑a0.size)) :: (102, (Value.bool false)) :: (103, (Value.bool false)) :: (104, u104) :: (105, u105) :: (106, u106) :: (107, u107) :: (108, u108) :: (109, u109) :: (110, u110) :: (111, u111) :: (112, u112) :: (113, u113) :: (114, u114) :: (115, u115) :: (116, u116) :: (117, u117) :: (118, u118) :: (119, u119) :: (120, u120) :: (121, u121) :: (122, u122) :: (123, u123) :: (124, u124) :: (125, u125) :: (126, u126) :: (127, u127) :: (128, u128) :: (129, u129) :: (130, u130) :: (131, u131) :: (132, u132) :: (133, u133) :: (134, u134) :: (135, u135) :: (136, u136) :: (137, u137) :: (138, u138) :: (139, u139) :: (140, u140) :: (141, u141) :: (142, u142) :: (143, u143) :: (144, u144) :: (145, u145) :: (146, u146) :: (147, u147) :: (148, u148) :: (149, u149) :: (150, u150) :: (151, u151) :: (152, u152) :: (153, u153) :: (154, u154) :: (155, u155) :: (156, u156) :: (157, u157) :: (158, u158) :: (159, u159) :: (160, u160) :: (161, u161) :: (162, u162) :: (163, u163) :: (164, u164) :: (165, u165) :: (166, u166) :: (167, u167) :: (168, u168) :: (169, u169) :: (170, u170) :: (171, u171) :: (172, u172) :: (173, u173) :: (174, u174) :: (175, u175) :: (176, u176) :: (177, u177) :: (178, u178) :: (179, (Value.bool false)) :: (245, u245) :: (246, u246) :: (247, u247) :: (248, u248) :: (249, u249) :: (250, u250) :: (251, u251) :: (252, u252) :: (253, u253) :: (254, u254) :: (255, u255) :: (256, u256) :: (257, u257) :: (258, u258) :: (259, u259) :: (260, u260) :: (261, u261) :: (262, u262) :: (263, u263) :: (264, u264) :: (265, u265) :: (266, u266) :: (267, u267) :: (268, u268) :: (269, u269) :: (270, u270) :: (271, u271) :: (272, u272) :: (273, u273) :: (274, u274) :: (275, u275) :: (276, u276) :: (277, u277) :: (278, u278) :: (279, u279) :: (280, u280) :: (281, u281) :: (282, u282) :: (283, u283) :: (284, u284) :: (285, u285) :: (286, u286) :: (287, u287) :: (288, u288) :: (289, u289) :: (290, u290) :: (291, u291) :: (292, u292) :: (293, u293) :: (294, u294) :: (295, u295) :: (296, u296) :: (297, u297) :: (298, undef) :: (299, undef) :: (300, undef) :: (301, undef) :: (302, undef) :: (303, undef) :: (304, undef) :: (305, undef) :: (306, undef) :: (307, undef) :: (308, undef) :: (309, undef) :: (310, undef) :: (311, undef) :: (312, undef) :: (313, undef) :: (314, undef) :: (315, undef) :: (316, undef) :: (317, undef) :: (318, undef) :: (319, undef) :: (320, undef) :: (321, undef) :: (322, undef) :: (323, undef) :: (324, undef) :: []) ++ ((180, (Value.int IntKind.i64 ↑i)) :: (181, (.bool false)) :: (182, (.bool false)) :: (183, undef) :: (184, undef) :: (185, undef) :: (186, undef) :: (187, undef) :: (188, undef) :: (189, undef) :: (190, undef) :: (191, undef) :: (192, undef) :: (193, undef) :: (194, undef) :: (195, undef) :: (196, undef) :: (197, undef) :: (198, undef) :: (199, undef) :: (200, undef) :: (201, undef) :: (202, undef) :: (203, undef) :: (204, undef) :: (205, undef) :: (206, undef) :: (207, undef) :: (208, undef) :: (209, undef) :: (210, undef) :: (211, undef) :: (212, undef) :: (213, undef) :: (214, undef) :: (215, undef) :: (216, undef) :: (217, undef) :: (218, undef) :: (219, undef) :: (220, undef) :: (221, undef) :: (222, undef) :: (223, undef) :: (224, undef) :: (225, undef) :: (226, undef) :: (227, undef) :: (228, undef) :: (229, undef) :: (230, undef) :: (231, undef) :: (232, undef) :: (233, undef) :: (234, undef) :: (235, undef) :: (236, undef) :: (237, undef) :: (238, undef) :: (239, undef) :: (240, undef) :: (241, undef) :: (242, undef) :: (243, undef) :: (244, (.bool false)) :: [])) ((Value.string a0) :: undef :: u2 :: (Value.pointer (some { block := p, off := 0 })) :: (Value.string a0) :: (Value.int IntKind.i64 iz) :: u6 :: u7 :: (Value.int IntKind.i64 ↑a0.size) :: (Value.int IntKind.i64 0) :: (Value.int IntKind.i64 ↑NN) :: (Value.int IntKind.i64 0) :: (Value.int IntKind.i64 ↑UU) :: (Value.int IntKind.i64 0) :: (Value.int IntKind.i64 ↑CC) :: (Value.int IntKind.i64 0) :: (Value.pointer (some { block := xl, off := 0 })) :: (Value.int IntKind.i64 ↑i) :: (Value.pointer (some { block := x1, off := 0 })) :: (Value.int IntKind.i64 0) :: (Value.pointer (some { block := x2, off := 0 })) :: (Value.int IntKind.i64 0) :: (Value.pointer (some { block := x3, off := 0 })) :: (Value.int IntKind.i64 0) :: (Value.pointer (some { block := x4, off := 0 })) :: (Value.int IntKind.i64 0) :: u26 :: u27 :: u28 :: (Value.string a0) :: (Value.int IntKind.i64 ↑a0.size) :: (Value.bool (decide ((300 : Int) < ((a0.size : Nat) : Int)))) :: undef :: (Value.string a0) :: (Value.pointer (some { block := p, off := 0 })) :: (Value.pointer (some { block := p, off := 0 })) :: (Value.bool false) :: (Value.int IntKind.i64 iz) :: (Value.pointer (some { block := p, off := 0 })) :: (Value.int IntKind.i64 ↑M) :: (Value.bool false) :: u41 :: u42 :: u43 :: u44 :: u45 :: u46 :: u47 :: u48 :: u49 :: u50 :: u51 :: u52 :: u53 :: (Value.tuple #[Value.int IntKind.i64 ↑a0.size, Value.int IntKind.i64 0]) :: (Value.pointer (some { block := p, off := 0 })) :: (Value.tuple #[Value.int IntKind.i64 ↑a0.size, Value.int IntKind.i64 0]) :: (Value.int IntKind.i64 ↑a0.size) :: (Value.int IntKind.i64 0) :: (Value.tuple #[Value.int IntKind.i64 ↑NN, Value.int IntKind.i64 0]) :: (Value.pointer (some { block := p, off := 0 })) :: (Value.tuple #[Value.int IntKind.i64 ↑NN, Value.int IntKind.i64 0]) :: (Value.int IntKind.i64 ↑NN) :: (Value.int IntKind.i64 0) :: (Value.tuple #[Value.int IntKind.i64 ↑UU, Value.int IntKind.i64 0]) :: (Value.pointer (some { block := p, off := 0 })) :: (Value.tuple #[Value.int IntKind.i64 ↑UU, Value.int IntKind.i64 0]) :: (Value.int IntKind.i64 ↑UU) :: (Value.int IntKind.i64 0) :: (Value.tuple #[Value.int IntKind.i64 ↑CC, Value.int IntKind.i64 0]) :: (Value.pointer (some { block := p, off := 0 })) :: (Value.tuple #[Value.int IntKind.i64 ↑CC, Value.int IntKind.i64 0]) :: (Value.int IntKind.i64 ↑CC) :: (Value.int IntKind.i64 0) :: (Value.string a0) :: (Value.string a0) :: (Value.bool false) :: (Value.bool false) :: (Value.int IntKind.i64 ↑a0.size) :: (Value.string a0) :: (Value.int IntKind.i64 ↑a0.size) :: (Value.bool false) :: (Value.bool false) :: (Value.bool false) :: (Value.int IntKind.i64 ↑NN) :: (Value.string a0) :: (Value.int IntKind.i64 ↑NN) :: (Value.bool false) :: (Value.bool false) :: (Value.bool false) :: (Value.int IntKind.i64 ↑CC) :: (Value.int IntKind.i64 ↑NN) :: (Value.bool false) :: (Value.bool false) :: (Value.bool false) :: (Value.int IntKind.i64 ↑NN) :: (Value.int IntKind.i64 ↑UU) :: (Value.bool false) :: (Value.bool false) :: (Value.bool false) :: (Value.int IntKind.i64 ↑UU) :: (Value.int IntKind.i64 ↑a0.size) :: (Value.bool false) :: (Value.bool false) :: u104 :: u105 :: u106 :: u107 :: u108 :: u109 :: u110 :: u111 :: u112 :: u113 :: u114 :: u115 :: u116 :: u117 :: u118 :: u119 :: u120 :: u121 :: u122 :: u123 :: u124 :: u125 :: u126 :: u127 :: u128 :: u129 :: u130 :: u131 :: u132 :: u133 :: u134 :: u135 :: u136 :: u137 :: u138 :: u139 :: u140 :: u141 :: u142 :: u143 :: u144 :: u145 :: u146 :: u147 :: u148 :: u149 :: u150 :: u151 :: u152 :: u153 :: u154 :: u155 :: u156 :: u157 :: u158 :: u159 :: u160 :: u161 :: u162 :: u163 :: u164 :: u165 :: u166 :: u167 :: u168 :: u169 :: u170 :: u171 :: u172 :: u173 :: u174 :: u175 :: u176 :: u177 :: u178 :: (Value.bool false) :: (Value.int IntKind.i64 ↑i) :: (.bool false) :: (.bool false) :: undef :: undef :: undef :: undef :: undef :: undef :: undef :: undef :: undef :: undef :: undef :: undef :: undef :: undef :: undef :: undef :: undef :: undef :: undef :: undef :: undef :: undef :: undef :: undef :: undef :: undef :: undef :: undef :: undef :: undef :: undef :: undef :: undef :: undef :: undef :: undef :: undef :: undef :: undef :: undef :: undef :: undef :: undef :: undef :: undef :: undef :: undef :: undef :: undef :: undef :: undef :: undef :: undef :: undef :: undef :: undef :: undef :: undef :: undef :: undef :: undef :: (.bool false) :: u245 :: u246 :: u247 :: u248 :: u249 :: u250 :: u251 :: u252 :: u253 :: u254 :: u255 :: u256 :: u257 :: u258 :: u259 :: u260 :: u261 :: u262 :: u263 :: u264 :: u265 :: u266 :: u267 :: u268 :: u269 :: u270 :: u271 :: u272 :: u273 :: u274 :: u275 :: u276 :: u277 :: u278 :: u279 :: u280 :: u281 :: u282 :: u283 :: u284 :: u285 :: u286 :: u287 :: u288 :: u289 :: u290 :: u291 :: u292 :: u293 :: u294 :: u295 :: u296 :: u297 :: undef :: undef :: undef :: undef :: undef :: undef :: undef :: undef :: undef :: undef :: undef :: undef :: undef :: undef :: undef :: undef :: undef :: undef :: undef :: undef :: undef :: undef :: undef :: undef :: undef :: undef :: undef :: []) hsz2 hds (fun p hp => by
                        rcases List.mem_append.1 hp with h | h
                        · exact hb p h
                        · exact vals_all hv rfl p h) rfl
                      clear hb hv hds hsz2
                      go_wp2
                      go_meet
                      exact ⟨rfl, rfl⟩
                · clear Hstep
                  have s1 : decide ((B : Int) ≤ (m0 : Int)) = false := decide_eq_false (by omega)
                  have s1' : decide (B ≤ m0) = false := decide_eq_false (by omega)
                  have s2 : decide ((U : Int) ≤ (m2 : Int)) = false := decide_eq_false (by omega)
                  have s2' : decide (U ≤ m2) = false := decide_eq_false (by omega)
                  have s3 : decide ((C : Int) < (m3 : Int)) = false := decide_eq_false (by omega)
                  have s3' : decide (C < m3) = false := decide_eq_false (by omega)
                  have s4 : decide ((L : Int) < (m4 : Int)) = false := decide_eq_false (by omega)
                  have s4' : decide (L < m4) = false := decide_eq_false (by omega)
                  have s0 : decide ((0 : Int) < (i : Int)) = true := decide_eq_true (by omega)
                  have s0' : decide (0 < i) = true := decide_eq_true hip0
                  have hm5 : m5 ≤ 1000000 := by omega
                  have s5 : ((L : Int) == (m4 : Int)) = true := by rw [beq_iff_eq]; omega
                  have s6 : ((K : Int) != (m5 : Int) + 1) = false := by simp; omega
                  have s7 : decide ((m4 : Int) < (L : Int)) = false := decide_eq_false (by omega)
                  have s7' : decide (m4 < L) = false := decide_eq_false (by omega)
                  clear hs0 hs2 hs3 hs4 hs5 hip0
                  as_aux_lemma =>
                    have hund : (undef : Value) = .tuple #[] := rfl
                    go_wp2
                    all_goals (go_meet; exact ⟨rfl, rfl⟩)
                · clear Hstep
                  have s1 : decide ((B : Int) ≤ (m0 : Int)) = false := decide_eq_false (by omega)
                  have s1' : decide (B ≤ m0) = false := decide_eq_false (by omega)
                  have s2 : decide ((U : Int) ≤ (m2 : Int)) = false := decide_eq_false (by omega)
                  have s2' : decide (U ≤ m2) = false := decide_eq_false (by omega)
                  have s3 : decide ((C : Int) < (m3 : Int)) = false := decide_eq_false (by omega)
                  have s3' : decide (C < m3) = false := decide_eq_false (by omega)
                  have s4 : decide ((L : Int) < (m4 : Int)) = false := decide_eq_false (by omega)
                  have s4' : decide (L < m4) = false := decide_eq_false (by omega)
                  have s0 : decide ((0 : Int) < (i : Int)) = true := decide_eq_true (by omega)
                  have s0' : decide (0 < i) = true := decide_eq_true hip0
                  have hm4 : m4 ≤ 1000000 := by omega
                  have s5 : ((L : Int) == (m4 : Int)) = false := by rw [beq_eq_false_iff_ne]; omega
                  have s6 : ((K : Int) != 1) = false := by simp; omega
                  have s8 : ((L : Int) != (m4 : Int) + 1) = false := by simp; omega
                  have s7 : decide ((m4 : Int) < (L : Int)) = true := decide_eq_true (by omega)
                  have s7' : decide (m4 < L) = true := decide_eq_true (by omega)
                  clear hs0 hs2 hs3 hs4 hs5 hip0
                  as_aux_lemma =>
                    have hund : (undef : Value) = .tuple #[] := rfl
                    go_wp2
                    all_goals (go_meet; exact ⟨rfl, rfl⟩)
              case rest =>
                obtain ⟨rfl, hwc⟩ := hcut
                subst hwc
                clear y0 y1 y2 y3 y4 y5 Hstep
                go_upto_region 32 with fail
                go_cut [26] from 104 to 297 (fun v wx => v = .bool PI ∧ wx = wc)
                case first =>
                  clear A5 hmn d4 k1 km
                  by_cases hB0 : 0 < B
                  · have v1 : decide ((0 : Int) < (B : Int)) = true := decide_eq_true (by omega)
                    have v1' : decide (0 < B) = true := decide_eq_true hB0
                    have v0 : (0 : Int) ≤ (B : Int) - 1 := by omega
                    have v9 : ((B : Int) - 1).toNat = B - 1 := by omega
                    have v8 : (B : Int) - 1 < (a0.size : Int) := by omega
                    by_cases hBs : B < a0.size
                    · have v2 : decide ((B : Int) < (a0.size : Int)) = true := decide_eq_true (by omega)
                      have v2' : decide (B < a0.size) = true := decide_eq_true hBs
                      have v7 : (B : Int) < (a0.size : Int) := by omega
                      rw [v1', v2', Bool.true_and, Bool.true_and] at HPI
                      have w1 := by_get a0 (B - 1) (by omega)
                      have w2 := by_get a0 B hBs
                      by_cases h13 : by_ a0 (B - 1) = 13
                      · rw [h13] at HPI w1
                        by_cases h10 : by_ a0 B = 10
                        · rw [h10] at HPI w2
                          have ePI : PI = true := unhide HPI
                          subst ePI
                          clear HPI
                          as_aux_lemma =>
                            have hund : (undef : Value) = .tuple #[] := rfl
                            go_wp2
                            all_goals (go_meet; exact ⟨rfl, rfl⟩)
                        · have ePI : PI = false := by rw [unhide HPI]; simp [h10]
                          subst ePI
                          have u10 : (((by_ a0 B : Nat) : Int) == 10) = false := by rw [beq_eq_false_iff_ne]; omega
                          clear HPI
                          as_aux_lemma =>
                            have hund : (undef : Value) = .tuple #[] := rfl
                            go_wp2
                            all_goals (go_meet; exact ⟨rfl, rfl⟩)
                      · have ePI : PI = false := by rw [unhide HPI]; simp [h13]
                        subst ePI
                        have u13 : (((by_ a0 (B - 1) : Nat) : Int) == 13) = false := by rw [beq_eq_false_iff_ne]; omega
                        clear HPI
                        as_aux_lemma =>
                          have hund : (undef : Value) = .tuple #[] := rfl
                          go_wp2
                          all_goals (go_meet; exact ⟨rfl, rfl⟩)
                    · have v2 : decide ((B : Int) < (a0.size : Int)) = false := decide_eq_false (by omega)
                      have v2' : decide (B < a0.size) = false := decide_eq_false hBs
                      have ePI : PI = false := by rw [unhide HPI, v2']; simp
                      subst ePI
                      clear HPI
                      as_aux_lemma =>
                        have hund : (undef : Value) = .tuple #[] := rfl
                        go_wp2
                        all_goals (go_meet; exact ⟨rfl, rfl⟩)
                  · have v1 : decide ((0 : Int) < (B : Int)) = false := decide_eq_false (by omega)
                    have v1' : decide (0 < B) = false := decide_eq_false hB0
                    have ePI : PI = false := by rw [unhide HPI, v1']; simp
                    subst ePI
                    clear HPI
                    as_aux_lemma =>
                      have hund : (undef : Value) = .tuple #[] := rfl
                      go_wp2
                      all_goals (go_meet; exact ⟨rfl, rfl⟩)
                case rest =>
                  obtain ⟨rfl, hwc⟩ := hcut
                  subst hwc
                  clear HPI
                  go_wp2_with fail
                  clear p0 p1 p2 p3 p4 p5
                  cases PI with
                  | true =>
                    rw [if_pos rfl] at A5
                    refine (unhide (A5 _ d4)).mono ?_
                    rintro e We ⟨rfl, he⟩
                    have k5 := Box6.new We (.int .i64 0) (.int .i64 0) (.int .i64 0) (.int .i64 0) (.int .i64 0) (.int .i64 0)
                    have h5a := (Below.refl _ We).alloc (Nat.le_refl _) (.cells #[.int .i64 0, .int .i64 0, .int .i64 0, .int .i64 0, .int .i64 0, .int .i64 0] 29)
                    have d5 := bnext (bnext d4 he) h5a
                    replace km := (km.below he).below h5a
                    replace k1 := (k1.below he).below h5a
                    clear he h5a d4 A5
                    go_upto_region 34 with fail
                    generalize We.heap.size = x5 at k5 ⊢
                    generalize We.alloc (.cells #[.int .i64 0, .int .i64 0, .int .i64 0, .int .i64 0, .int .i64 0, .int .i64 0] 29) = X5 at k1 k5 km d5 ⊢
                    go_cut [296] from 104 to 297 (fun v wx => v = .bool false ∧ wx = X5)
                    case first =>
                      clear km hmn d5
                      obtain ⟨p0, p1, p2, p3, p4, p5, _⟩ := k1.facts
                      obtain ⟨q0, q1, q2, q3, q4, q5, _⟩ := k5.facts
                      as_aux_lemma =>
                        go_wp2
                        go_meet
                        case rel => exact ⟨rfl, rfl⟩
                    case rest =>
                      obtain ⟨rfl, hwc⟩ := hcut
                      subst hwc
                      clear k5
                      obtain ⟨p0, p1, p2, p3, p4, p5, _⟩ := k1.facts
                      obtain ⟨y0, y1, y2, y3, y4, y5, yf0, yf1, yf2, yf3, yf4, yf5⟩ := km.facts
                      go_wp2
                      go_roundw
                      case rel =>
                        have hi1 : i + 1 ≤ NN + 1 := by omega
                        have HKm := km.set6 (.int .i64 (B : Nat)) (.int .i64 (i : Nat)) (.int .i64 (U : Nat)) (.int .i64 (C : Nat)) (.int .i64 (L : Nat)) (.int .i64 (K : Nat))
                        have HBs := bset6 d5 hxl (.int .i64 (B : Nat)) (.int .i64 (i : Nat)) (.int .i64 (U : Nat)) (.int .i64 (C : Nat)) (.int .i64 (L : Nat)) (.int .i64 (K : Nat))
                        exact ⟨i + 1, hi1, rfl, ⟨B, i, U, C, L, K, HKm, hmn⟩, HBs⟩
                      case measure => simp [RowKit.intOf]; omega
                  | false =>
                    rw [if_neg (by decide)] at A5
                    refine (unhide (A5 _ d4)).mono ?_
                    rintro e We ⟨rfl, he⟩
                    have k5 := Box6.new We (.int .i64 (B : Nat)) (.int .i64 (i : Nat)) (.int .i64 (U : Nat)) (.int .i64 (C : Nat)) (.int .i64 (L : Nat)) (.int .i64 (K : Nat))
                    have h5a := (Below.refl _ We).alloc (Nat.le_refl _) (.cells #[.int .i64 (B : Nat), .int .i64 (i : Nat), .int .i64 (U : Nat), .int .i64 (C : Nat), .int .i64 (L : Nat), .int .i64 (K : Nat)] 29)
                    have d5 := bnext (bnext d4 he) h5a
                    replace km := (km.below he).below h5a
                    replace k1 := (k1.below he).below h5a
                    clear he h5a d4 A5
                    go_upto_region 34 with fail
                    generalize We.heap.size = x5 at k5 ⊢
                    generalize We.alloc (.cells #[.int .i64 (B : Nat), .int .i64 (i : Nat), .int .i64 (U : Nat), .int .i64 (C : Nat), .int .i64 (L : Nat), .int .i64 (K : Nat)] 29) = X5 at k1 k5 km d5 ⊢
                    go_cut [296] from 104 to 297 (fun v wx => v = .bool false ∧ wx = X5)
                    case first =>
                      clear km hmn d5
                      obtain ⟨p0, p1, p2, p3, p4, p5, _⟩ := k1.facts
                      obtain ⟨q0, q1, q2, q3, q4, q5, _⟩ := k5.facts
                      as_aux_lemma =>
                        go_wp2
                        go_meet
                        case rel => exact ⟨rfl, rfl⟩
                    case rest =>
                      obtain ⟨rfl, hwc⟩ := hcut
                      subst hwc
                      clear k5
                      obtain ⟨p0, p1, p2, p3, p4, p5, _⟩ := k1.facts
                      obtain ⟨y0, y1, y2, y3, y4, y5, yf0, yf1, yf2, yf3, yf4, yf5⟩ := km.facts
                      go_wp2
                      go_roundw
                      case rel =>
                        have hi1 : i + 1 ≤ NN + 1 := by omega
                        have HKm := km.set6 (.int .i64 (B : Nat)) (.int .i64 (i : Nat)) (.int .i64 (U : Nat)) (.int .i64 (C : Nat)) (.int .i64 (L : Nat)) (.int .i64 (K : Nat))
                        have HBs := bset6 d5 hxl (.int .i64 (B : Nat)) (.int .i64 (i : Nat)) (.int .i64 (U : Nat)) (.int .i64 (C : Nat)) (.int .i64 (L : Nat)) (.int .i64 (K : Nat))
                        exact ⟨i + 1, hi1, rfl, ⟨B, i, U, C, L, K, HKm, hmn⟩, HBs⟩
                      case measure => simp [RowKit.intOf]; omega
          · have j1 : ¬ (i : Int) ≤ (NN : Int) := by omega
            have hie : i = NN + 1 := by omega
            obtain ⟨e0, e2, e3, e4, _⟩ := unhide hmm NN hie
            have hNq := unhide HNN
            rw [show pB a0 NN = a0.size by rw [← hNq]; exact pB_end a0] at e0
            rw [show pU a0 NN = UU by rw [← hNq]; exact unhide HUU] at e2
            rw [show pC a0 NN = CC by rw [← hNq]; exact unhide HCC] at e3
            rw [show pL a0 NN = M by rw [← hNq]; exact unhide HM] at e4
            rw [e0, e2, e3, e4] at km
            clear e0 e2 e3 e4
            clear hmm hNq HNN HUU HCC HM hie hin hi hat hce
            go_wp2_with fail
            refine wp_region_any (by kernel_rfl) ?_
            change wpAny _ _ _ _ _ _ _ (World.drew _)
            refine region_inv 325 (fun j => if j = 27 then 2 else 298 + j) [(0, (.string a0)), (3, (.pointer (some ⟨p, 0, none⟩))), (12, (.int .i64 (UU : Nat))), (14, (.int .i64 (CC : Nat))), (16, (.pointer (some ⟨xl, 0, none⟩)))]
              (fun W => Below wr.heap.size wr W)
              (valsOf [isV (.pointer (some ⟨xl, 0, none⟩)), isV (.int .i64 (a0.size : Nat)), isV (.string a0), isV (.int .i64 (a0.size : Nat)), isV (.bool true), isV (.bool true), isV (.pointer (some ⟨xl, 2, none⟩)), isV (.int .i64 (UU : Nat)), isV (.int .i64 (UU : Nat)), isV (.bool true), isV (.bool true), isV (.bool true), isV (.pointer (some ⟨xl, 3, none⟩)), isV (.int .i64 (CC : Nat)), isV (.int .i64 (CC : Nat)), isV (.bool true), isV (.bool true), isV (.bool true), isV (.pointer (some ⟨xl, 4, none⟩)), isV (.int .i64 (M : Nat)), isV (.pointer (some ⟨p, 0, none⟩)), isV (.int .i64 (M : Nat)), isV (.bool true), isV (.bool true), isV (.bool true), isV (.bool true), isV (.bool true), isV (.bool true)])
              (fun w w' => Below w.heap.size w w') ?fit (fun w1 w2 h hG => h.trans (hG.mono h.size)) (valsOf_stable ?stable) [(5, true), (11, true), (17, true), (24, true)] ?gs ?gv ?steps ?fin _ _ ?sz rfl ?base ?start
            case fit => kernel_rfl
            case sz => rfl
            case gs => kernel_rfl
            case gv => intro p hp w v hv; simp only [List.mem_cons, List.not_mem_nil, or_false] at hp; rcases hp with rfl | rfl | rfl | rfl <;> exact hv
            case base => intro p hp; repeat (first | (rcases List.mem_cons.1 hp with rfl | hp; · rfl) | cases hp)
            case stable => exact Stables.all (by repeat (first | exact .nil | refine .same ?_))
            case start => exact (Below.refl _ _).drew
            case steps =>
              refine .cons (fun ρ wz hρ hJ hb hd => by
                have d0 : ρ (.tmp 16) = (.pointer (some ⟨xl, 0, none⟩)) := hb (16, _) (List.mem_of_getElem? (i := 4) rfl)
                exact step_val (v := (.pointer (some ⟨xl, 0, none⟩))) (w' := wz) (by simp [go_sem, execOp, d0, hρ.const]) ⟨Below.refl _ _, rfl⟩) ?_
              refine .cons (fun ρ wz hρ hJ hb hd => by
                have d0 : ρ (.tmp 298) = (.pointer (some ⟨xl, 0, none⟩)) := hd 0 _ rfl rfl
                obtain ⟨c0, c1, c2, c3, c4, c5, _⟩ := (km.below hJ).facts
                exact step_val (v := (.int .i64 (a0.size : Nat))) (w' := wz) (by simp [go_sem, execOp, d0, c0]) ⟨Below.refl _ _, rfl⟩) ?_
              refine .cons (fun ρ wz hρ hJ hb hd => by
                have d0 : ρ (.tmp 0) = (.string a0) := hb (0, _) (List.mem_of_getElem? (i := 0) rfl)
                exact step_move (.tmp 0) rfl ⟨Below.refl _ _, d0⟩) ?_
              refine .cons (fun ρ wz hρ hJ hb hd => by
                have d0 : ρ (.tmp 300) = (.string a0) := hd 0 _ rfl rfl
                exact step_val (v := (.int .i64 (a0.size : Nat))) (w' := wz) (by simp [go_sem, execOp, d0, hρ.const]) ⟨Below.refl _ _, rfl⟩) ?_
              refine .cons (fun ρ wz hρ hJ hb hd => by
                have d0 : ρ (.tmp 299) = (.int .i64 (a0.size : Nat)) := hd 0 _ rfl rfl
                have d1 : ρ (.tmp 301) = (.int .i64 (a0.size : Nat)) := hd 1 _ rfl rfl
                exact step_val (v := (.bool true)) (w' := wz) (by simp [go_sem, execOp, d0, d1, hρ.const]) ⟨Below.refl _ _, rfl⟩) ?_
              refine .cons (fun ρ wz hρ hJ hb hd => by
                have d0 : ρ (.tmp 302) = (.bool true) := hd 0 _ rfl rfl
                exact step_move (.tmp 302) rfl ⟨Below.refl _ _, d0⟩) ?_
              refine .cons (fun ρ wz hρ hJ hb hd => by
                have d0 : ρ (.tmp 16) = (.pointer (some ⟨xl, 0, none⟩)) := hb (16, _) (List.mem_of_getElem? (i := 4) rfl)
                exact step_val (v := (.pointer (some ⟨xl, 2, none⟩))) (w' := wz) (by simp [go_sem, execOp, d0, hρ.const]) ⟨Below.refl _ _, rfl⟩) ?_
              refine .cons (fun ρ wz hρ hJ hb hd => by
                have d0 : ρ (.tmp 304) = (.pointer (some ⟨xl, 2, none⟩)) := hd 0 _ rfl rfl
                obtain ⟨c0, c1, c2, c3, c4, c5, _⟩ := (km.below hJ).facts
                exact step_val (v := (.int .i64 (UU : Nat))) (w' := wz) (by simp [go_sem, execOp, d0, c2]) ⟨Below.refl _ _, rfl⟩) ?_
              refine .cons (fun ρ wz hρ hJ hb hd => by
                have d0 : ρ (.tmp 12) = (.int .i64 (UU : Nat)) := hb (12, _) (List.mem_of_getElem? (i := 2) rfl)
                exact step_move (.tmp 12) rfl ⟨Below.refl _ _, d0⟩) ?_
              refine .cons (fun ρ wz hρ hJ hb hd => by
                have d0 : ρ (.tmp 305) = (.int .i64 (UU : Nat)) := hd 0 _ rfl rfl
                have d1 : ρ (.tmp 306) = (.int .i64 (UU : Nat)) := hd 1 _ rfl rfl
                exact step_val (v := (.bool true)) (w' := wz) (by simp [go_sem, execOp, d0, d1, hρ.const]) ⟨Below.refl _ _, rfl⟩) ?_
              refine .cons (fun ρ wz hρ hJ hb hd => by
                have d0 : ρ (.tmp 303) = (.bool true) := hd 0 _ rfl rfl
                have d1 : ρ (.tmp 307) = (.bool true) := hd 1 _ rfl rfl
                exact step_val (v := (.bool true)) (w' := wz) (by simp [go_sem, execOp, d0, d1, hρ.const]) ⟨Below.refl _ _, rfl⟩) ?_
              refine .cons (fun ρ wz hρ hJ hb hd => by
                have d0 : ρ (.tmp 308) = (.bool true) := hd 0 _ rfl rfl
                exact step_move (.tmp 308) rfl ⟨Below.refl _ _, d0⟩) ?_
              refine .cons (fun ρ wz hρ hJ hb hd => by
                have d0 : ρ (.tmp 16) = (.pointer (some ⟨xl, 0, none⟩)) := hb (16, _) (List.mem_of_getElem? (i := 4) rfl)
                exact step_val (v := (.pointer (some ⟨xl, 3, none⟩))) (w' := wz) (by simp [go_sem, execOp, d0, hρ.const]) ⟨Below.refl _ _, rfl⟩) ?_
              refine .cons (fun ρ wz hρ hJ hb hd => by
                have d0 : ρ (.tmp 310) = (.pointer (some ⟨xl, 3, none⟩)) := hd 0 _ rfl rfl
                obtain ⟨c0, c1, c2, c3, c4, c5, _⟩ := (km.below hJ).facts
                exact step_val (v := (.int .i64 (CC : Nat))) (w' := wz) (by simp [go_sem, execOp, d0, c3]) ⟨Below.refl _ _, rfl⟩) ?_
              refine .cons (fun ρ wz hρ hJ hb hd => by
                have d0 : ρ (.tmp 14) = (.int .i64 (CC : Nat)) := hb (14, _) (List.mem_of_getElem? (i := 3) rfl)
                exact step_move (.tmp 14) rfl ⟨Below.refl _ _, d0⟩) ?_
              refine .cons (fun ρ wz hρ hJ hb hd => by
                have d0 : ρ (.tmp 311) = (.int .i64 (CC : Nat)) := hd 0 _ rfl rfl
                have d1 : ρ (.tmp 312) = (.int .i64 (CC : Nat)) := hd 1 _ rfl rfl
                exact step_val (v := (.bool true)) (w' := wz) (by simp [go_sem, execOp, d0, d1, hρ.const]) ⟨Below.refl _ _, rfl⟩) ?_
              refine .cons (fun ρ wz hρ hJ hb hd => by
                have d0 : ρ (.tmp 309) = (.bool true) := hd 0 _ rfl rfl
                have d1 : ρ (.tmp 313) = (.bool true) := hd 1 _ rfl rfl
                exact step_val (v := (.bool true)) (w' := wz) (by simp [go_sem, execOp, d0, d1, hρ.const]) ⟨Below.refl _ _, rfl⟩) ?_
              refine .cons (fun ρ wz hρ hJ hb hd => by
                have d0 : ρ (.tmp 314) = (.bool true) := hd 0 _ rfl rfl
                exact step_move (.tmp 314) rfl ⟨Below.refl _ _, d0⟩) ?_
              refine .cons (fun ρ wz hρ hJ hb hd => by
                have d0 : ρ (.tmp 16) = (.pointer (some ⟨xl, 0, none⟩)) := hb (16, _) (List.mem_of_getElem? (i := 4) rfl)
                exact step_val (v := (.pointer (some ⟨xl, 4, none⟩))) (w' := wz) (by simp [go_sem, execOp, d0, hρ.const]) ⟨Below.refl _ _, rfl⟩) ?_
              refine .cons (fun ρ wz hρ hJ hb hd => by
                have d0 : ρ (.tmp 316) = (.pointer (some ⟨xl, 4, none⟩)) := hd 0 _ rfl rfl
                obtain ⟨c0, c1, c2, c3, c4, c5, _⟩ := (km.below hJ).facts
                exact step_val (v := (.int .i64 (M : Nat))) (w' := wz) (by simp [go_sem, execOp, d0, c4]) ⟨Below.refl _ _, rfl⟩) ?_
              refine .cons (fun ρ wz hρ hJ hb hd => by
                have d0 : ρ (.tmp 3) = (.pointer (some ⟨p, 0, none⟩)) := hb (3, _) (List.mem_of_getElem? (i := 1) rfl)
                exact step_move (.tmp 3) rfl ⟨Below.refl _ _, d0⟩) ?_
              refine .cons (fun ρ wz hρ hJ hb hd => by
                have d0 : ρ (.tmp 318) = (.pointer (some ⟨p, 0, none⟩)) := hd 0 _ rfl rfl
                refine step_func 16 _ _ #[.pointer (some ⟨p, 0, none⟩)] hρ rfl (enters_of Try.func16 (by kernel_rfl) rfl) (by simp [d0]) ((unhide (hlns p wz (mp.below (bnext hB hJ)))).mono ?_)
                rintro e w2 ⟨rfl, hb2⟩
                exact ⟨_, rfl, hb2, rfl⟩) ?_
              refine .cons (fun ρ wz hρ hJ hb hd => by
                have d0 : ρ (.tmp 317) = (.int .i64 (M : Nat)) := hd 0 _ rfl rfl
                have d1 : ρ (.tmp 319) = (.int .i64 (M : Nat)) := hd 1 _ rfl rfl
                exact step_val (v := (.bool true)) (w' := wz) (by simp [go_sem, execOp, d0, d1, hρ.const]) ⟨Below.refl _ _, rfl⟩) ?_
              refine .cons (fun ρ wz hρ hJ hb hd => by
                have d0 : ρ (.tmp 315) = (.bool true) := hd 0 _ rfl rfl
                have d1 : ρ (.tmp 320) = (.bool true) := hd 1 _ rfl rfl
                exact step_val (v := (.bool true)) (w' := wz) (by simp [go_sem, execOp, d0, d1, hρ.const]) ⟨Below.refl _ _, rfl⟩) ?_
              refine .cons (fun ρ wz hρ hJ hb hd => by
                have d0 : ρ (.tmp 321) = (.bool true) := hd 0 _ rfl rfl
                exact step_move (.tmp 321) rfl ⟨Below.refl _ _, d0⟩) ?_
              refine .cons (fun ρ wz hρ hJ hb hd => by
                refine step_func 7 _ _ #[] hρ rfl (enters_of Try.func7 (by kernel_rfl) rfl) (by simp) ((unhide (hkn wz)).mono ?_)
                rintro e w2 ⟨rfl, hb2⟩
                exact ⟨_, rfl, hb2, rfl⟩) ?_
              refine .cons (fun ρ wz hρ hJ hb hd => by
                have d0 : ρ (.tmp 322) = (.bool true) := hd 0 _ rfl rfl
                have d1 : ρ (.tmp 323) = (.bool true) := hd 1 _ rfl rfl
                exact step_val (v := (.bool true)) (w' := wz) (by simp [go_sem, execOp, d0, d1, hρ.const]) ⟨Below.refl _ _, rfl⟩) ?_
              refine .cons (fun ρ wz hρ hJ hb hd => by
                have d0 : ρ (.tmp 324) = (.bool true) := hd 0 _ rfl rfl
                exact step_assign (.tmp 324) rfl ⟨Below.refl _ _, d0⟩) (.nil _)
            case fin =>
              intro a W5 hsz2 hds hJ hv
              have h2 : a.eval (.tmp 2) = .bool true := hv 27 (by decide)
              clear hv
              go_wp2
              refine bodyPost_ret (v := .bool true) ?_ hds ⟨rfl, bnext b1 (bnext hB hJ)⟩
              have h2s := eval_some (a := a) (t := 2) (by omega)
              rw [h2] at h2s
              simp [results, Try.f6, h2s]

theorem own : ownKnob Try.prog.godebug = none := by kernel_rfl

set_option maxRecDepth 100000 in
theorem lifted (os : Os) (started : os.Started) (H : Type) (enc : TypeId × Value → H) :
    ReturnsInHanded {} Try.checked os 6 .any (Rows.placeBackSpec.pre6 enc Try.prog Try.f6 Rows.placeBackRow.domain false) (Rows.placeBackSpec.post enc Try.prog Try.f6 false true false false) := by
  refine returnsInHanded_of_change (C := Try.checked) own started (by kernel_rfl) Try.func6
    (ChangeSpec.witness6 (enc := enc) (C := Try.checked) false ⟨#[], #[.string ByteArray.empty], []⟩ 8 (by kernel_rfl) (by kernel_rfl) (by kernel_rfl) (by kernel_rfl)) ?_
  intro W base args ds gs before hval0 hW hcnd _
  have hval : ∀ (j : Nat) t v, Try.f6.params[j]? = some t → args[j]? = some v → Value.okWide Try.prog W .any base t v := hval0
  have hW' := hW
  obtain ⟨p, q, hA0, hV, rfl, hfz, hnd⟩ := hW
  have hA : DataW.TrodAll enc Try.prog W 0 (fun _ => true) true Try.f6.params.toList args.toList ds p := hA0
  rw [Try.params6] at hA hval
  obtain ⟨v0, vs0, d0, ds0, p0, q0, hargs, rfl, rfl, h0, r0⟩ := trodAll_cons hA
  obtain ⟨rfl, rfl, rfl⟩ := trodAll_nil r0
  obtain rfl : args = #[v0] := by cases args; simp_all
  obtain ⟨rfl, rfl⟩ := trodVars_none hV
  obtain ⟨a0, rfl, rfl, rfl, w0⟩ := open_string Try.underlying9 (hval 0 9 v0 rfl rfl) h0
  clear hA0 hval0
  simp only [List.append_nil] at hW'
  refine (walk a0 w0 W).mono fun e W' ⟨he, bel⟩ => ?_
  subst he
  exact ⟨_, rfl, _, _, _, [], _, [], hW', trodAll_mk1 (shut_bool Try.underlying4 _), (trodAll_cons_mk (shut_string Try.underlying9 w0) trodAll_mk0), rfl, bel.frame _, fun h => by cases h⟩

theorem over : Rows.placeBackRow.holds Try.pinned (OpenSpec.ofChange Rows.placeBackSpec) :=
  OpenClaim.holds_of_wide 6 Try.f6 rfl rfl rfl rfl rfl rfl rfl ⟨rfl, rfl, rfl, rfl, rfl⟩ rfl rfl rfl rfl rfl (by kernel_rfl) Try.func6 (by kernel_rfl)
    (of_decide_eq_true (by kernel_rfl)) (by unfold Func.isWrapper; first | (rw [if_pos (by decide +kernel)]; kernel_rfl) | (rw [if_neg (by decide +kernel)]; exact ⟨rfl, rfl⟩))
    (fun os started H enc _ => lifted os started H enc)

end LPlaceBack

theorem placeBack_holds : Rows.PlaceBackSaid := LPlaceBack.over

end Go.Proofs.Ytiakhpfljjfaeaa
